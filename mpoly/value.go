package mpoly

import (
	"slices"

	"cleaver/api"
	"cleaver/zint"
)

// Deriv is the derivative by a variable.
func Deriv(n int, a []api.Term, i int) ([]api.Term, api.Errno) {
	if e := checkOf(n, a, i); e != api.OK {
		return nil, e
	}
	p := pile{}
	for _, t := range plain(a) {
		if t.at[i] > 0 {
			times := zint.Of(int(t.at[i]))
			t.at[i]--
			p.add(t.at, zint.Mul(t.c, times))
		}
	}
	return told(n, p.terms())
}

// Eval is a polynomial with a number in the place of a variable.
func Eval(n int, a []api.Term, i int, x api.Int) ([]api.Term, api.Errno) {
	if e := checkOf(n, a, i); e != api.OK {
		return nil, e
	}
	l := plain(a)
	// by rising exponents each power is made of the one before, and no more than one is kept: they may be long
	slices.SortFunc(l, func(s, t term) int { return int(s.at[i] - t.at[i]) })
	p, made, high := pile{}, zint.Of(1), int16(0)
	for _, t := range l {
		if t.at[i] > high {
			made = zint.Mul(made, power(x, t.at[i]-high))
			high = t.at[i]
		}
		t.at[i] = 0
		p.add(t.at, zint.Mul(t.c, made))
	}
	return told(n, p.terms())
}

// power is x to the power of n, above 0; zint.Pow refuses those that are long.
func power(x api.Int, n int16) api.Int {
	if n == 1 {
		return x
	}
	half := power(x, n/2)
	square := zint.Mul(half, half)
	if n%2 == 1 {
		return zint.Mul(square, x)
	}
	return square
}
