package zpoly

import (
	"cleaver/api"
	"cleaver/zint"
)

// Div is the quotient, if there is no rest.
func Div(a, b []api.Int) ([]api.Int, api.Errno) {
	a, b = Norm(a), Norm(b)
	if len(b) == 0 {
		return nil, api.ErrZero
	}
	quotient, e := upperQuotient(a, b)
	if e != api.OK || isShort(a, quotient, b) {
		return nil, api.ErrExact
	}
	return quotient, api.OK
}

// upperQuotient is what makes all coefficients of a that are as high as b's last one or higher, when b is taken so often;
// b is not nought. It goes from the highest one down, to the first one that no integer makes.
func upperQuotient(a, b []api.Int) ([]api.Int, api.Errno) {
	top := len(b) - 1
	quotient := make([]api.Int, max(len(a)-top, 0))
	for i := len(quotient) - 1; i >= 0; i-- {
		left := leftAt(a, quotient, b, i+top) // so far quotient has nothing but noughts up to i
		times, e := zint.Exact(left, b[top])
		if e != api.OK {
			return nil, e
		}
		quotient[i] = times
	}
	return quotient, api.OK
}

// isShort tells that quotient times b is not a, of which it makes those coefficients.
func isShort(a, quotient, b []api.Int) bool {
	for place := range min(len(a), len(b)-1) {
		if !isNought(leftAt(a, quotient, b, place)) {
			return true
		}
	}
	return false
}

// leftAt is what is left of a's coefficient at a place, when that of the product of b and c is taken away.
func leftAt(a, b, c []api.Int, place int) api.Int {
	return zint.Sub(a[place], sumAt(b, c, place))
}
