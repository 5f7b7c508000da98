package zpoly

import (
	"slices"

	"cleaver/api"
	"cleaver/zint"
)

// Deriv is the derivative.
func Deriv(a []api.Int) []api.Int {
	return integers(max(len(a)-1, 0), func(place int) api.Int {
		return zint.Mul(zint.Of(place+1), a[place+1])
	})
}

// Eval is the value at a place.
func Eval(a []api.Int, x api.Int) api.Int {
	value := api.Int{}
	for _, c := range slices.Backward(a) {
		value = zint.Add(zint.Mul(value, x), c)
	}
	return value
}

// Shift is a polynomial at a place that is so much farther. Divided by x - s again and again, a leaves its coefficients
// one by one, as it is the sum of each of them times that power of x - s.
func Shift(a []api.Int, s api.Int) []api.Int {
	left := Norm(a)
	return integers(len(left), func(int) api.Int {
		for i := len(left) - 2; i >= 0; i-- {
			left[i] = zint.Add(left[i], zint.Mul(left[i+1], s))
		}
		rest := left[0]
		left = left[1:]
		return rest
	})
}
