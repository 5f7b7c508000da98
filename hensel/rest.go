package hensel

import (
	"slices"

	"cleaver/api"
	"cleaver/prime"
	"cleaver/zint"
	"cleaver/zpoly"
)

// made is the polynomial of n coefficients that are told by their places, without noughts at the end.
func made(n int, told func(place int) api.Int) []api.Int {
	z := make([]api.Int, n)
	for place := range z {
		z[place] = told(place)
	}
	for len(z) > 0 && zint.Sign(z[len(z)-1]) == 0 {
		z = z[:len(z)-1]
	}
	return z
}

// mayDivide tells that there are rests by a number. All below is for such ones alone.
func mayDivide(m api.Int) bool { return zint.Sign(m) > 0 }

func restBy(a, m api.Int) api.Int {
	rest, _ := prime.Rest(a, m)
	return rest
}

// rests are a polynomial's coefficients by m.
func rests(a []api.Int, m api.Int) []api.Int {
	return made(len(a), func(place int) api.Int { return restBy(a[place], m) })
}

// product is that of two, by m.
func product(a, b []api.Int, m api.Int) []api.Int {
	return rests(zpoly.Mul(rests(a, m), rests(b, m)), m)
}

// isMonic: is the last coefficient 1? Nought has none.
func isMonic(a []api.Int) bool {
	return len(a) > 0 && zint.Cmp(a[len(a)-1], zint.Of(1)) == 0
}

// divided is how often b, which is monic, goes into a, and the rest. Both are by m, and so is what is answered.
// What is left at a place is brought to its rest when its turn comes, and not each time that something is taken away.
func divided(a, b []api.Int, m api.Int) ([]api.Int, []api.Int) {
	rest, top := slices.Clone(a), len(b)-1
	quotient := make([]api.Int, max(len(a)-top, 0))
	for i := len(quotient) - 1; i >= 0; i-- {
		quotient[i] = restBy(rest[i+top], m)
		for j, c := range b[:top] {
			rest[i+j] = zint.Sub(rest[i+j], zint.Mul(quotient[i], c))
		}
	}
	return quotient, rests(rest[:min(len(a), top)], m)
}

// restOfProduct is the rest by c, which is monic, of the product of a and b, by m.
func restOfProduct(a, b, c []api.Int, m api.Int) []api.Int {
	_, rest := divided(product(a, b, m), rests(c, m), m)
	return rest
}
