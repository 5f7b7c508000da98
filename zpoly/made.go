package zpoly

import (
	"cleaver/api"
	"cleaver/zint"
)

// made are n coefficients, be they integers or rests, told one by one by their places, from the lowest up.
// Those at the end that are none are left out.
func made[C any](n int, isNone func(c C) bool, told func(place int) C) []C {
	z := make([]C, n)
	for place := range z {
		z[place] = told(place)
	}
	for len(z) > 0 && isNone(z[len(z)-1]) {
		z = z[:len(z)-1]
	}
	return z
}

// integers is the polynomial of n integers that are told by their places: it is plain, and new memory, if each of them is.
func integers(n int, told func(place int) api.Int) []api.Int {
	return made(n, isNought, told)
}

func isNought(c api.Int) bool { return zint.Sign(c) == 0 }

// coefficient is the one at a place, 0 behind the end.
func coefficient(a []api.Int, place int) api.Int {
	if place >= len(a) {
		return api.Int{}
	}
	return a[place]
}

// sumAt is the coefficient at a place of a product.
func sumAt(a, b []api.Int, place int) api.Int {
	sum := api.Int{}
	for i := max(place-len(b)+1, 0); i <= place && i < len(a); i++ {
		if !isNought(a[i]) && !isNought(b[place-i]) { // in many a polynomial most are, and adding one takes its time, too
			sum = zint.Add(sum, zint.Mul(a[i], b[place-i]))
		}
	}
	return sum
}
