package prime

import (
	"cleaver/api"
	"cleaver/zint"
)

// Mod is the rest of an integer.
func Mod(a api.Int, m int) (int, api.Errno) {
	rest, e := Rest(a, zint.Of(m))
	number, _ := zint.Small(rest) // it is less than m
	return number, e
}

// Rest is the rest of an integer.
func Rest(a, m api.Int) (api.Int, api.Errno) {
	if !mayDivide(m) {
		return api.Int{}, api.ErrArg
	}
	return restBy(a, m), api.OK
}

// Near is the number nearest to 0 that has the same rest.
func Near(a, m api.Int) (api.Int, api.Errno) {
	rest, e := Rest(a, m)
	if e == api.OK && zint.Cmp(zint.Add(rest, rest), m) > 0 {
		rest = zint.Sub(rest, m)
	}
	return rest, e
}

// Crt is the number that has two rests.
func Crt(a, m, b, n api.Int) (api.Int, api.Errno) {
	if !mayDivide(m) || !mayDivide(n) {
		return api.Int{}, api.ErrArg
	}
	shared, inverse, _ := zint.Bezout(m, n)
	if !isOne(shared) {
		return api.Int{}, api.ErrArg
	}
	first := restBy(a, m)
	times := restBy(zint.Mul(zint.Sub(b, first), inverse), n) // so many m more turn first's rest by n into b's
	return zint.Add(first, zint.Mul(m, times)), api.OK
}

// mayDivide tells that there are rests by a number.
func mayDivide(m api.Int) bool { return zint.Sign(m) > 0 }

func isOne(a api.Int) bool { return zint.Cmp(a, zint.Of(1)) == 0 }

// restBy is the rest by m, which is 1 or more.
func restBy(a, m api.Int) api.Int {
	_, rest, _ := zint.Div(a, m)
	return rest
}
