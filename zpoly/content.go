package zpoly

import (
	"cleaver/api"
	"cleaver/zint"
)

// Content is what all coefficients have in common.
func Content(a []api.Int) api.Int {
	a = Norm(a)
	shared, one := api.Int{}, zint.Of(1)
	for i := 0; i < len(a) && zint.Cmp(shared, one) != 0; i++ {
		shared = zint.Gcd(shared, a[i])
	}
	if len(a) > 0 && zint.Sign(a[len(a)-1]) < 0 {
		return zint.Neg(shared)
	}
	return shared
}

// Prim is a polynomial without that.
func Prim(a []api.Int) []api.Int {
	content := Content(a)
	if isNought(content) {
		return nil
	}
	return integers(len(a), func(place int) api.Int {
		quotient, _ := zint.Exact(a[place], content) // it divides them all
		return quotient
	})
}
