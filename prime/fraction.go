package prime

import (
	"cleaver/api"
	"cleaver/rat"
	"cleaver/zint"
)

// row is a row of Euclid's way: its number, and how often the number whose rest is asked for was taken into it.
type row struct{ number, taken api.Int }

// Fraction is the fraction that has a rest.
func Fraction(a, m api.Int) (api.Rat, api.Errno) {
	rest, e := Rest(a, m)
	if e != api.OK {
		return api.Rat{}, e
	}
	most := mostOf(m)
	found := firstUpTo(most, m, rest)
	if !isUpTo(most, found.taken) || !isOne(zint.Gcd(found.number, found.taken)) {
		return api.Rat{}, api.ErrNone
	}
	return rat.Make(found.number, found.taken)
}

// mostOf is the greatest natural of which twice the square is less than m.
func mostOf(m api.Int) api.Int {
	half, _, _ := zint.Div(zint.Sub(m, zint.Of(1)), zint.Of(2))
	most, _ := zint.Root(half, 2)
	return most
}

// isUpTo tells that an amount is most or less.
func isUpTo(most, a api.Int) bool {
	return zint.Cmp(api.Int{Abs: a.Abs}, most) <= 0
}

// firstUpTo goes Euclid's way from m and rest on, which is less, to the first row whose number is most or less.
// As most is not below 0, no number on the way to it is 0.
func firstUpTo(most, m, rest api.Int) row {
	last, next := row{m, zint.Of(0)}, row{rest, zint.Of(1)}
	for zint.Cmp(next.number, most) > 0 {
		last, next = next, last.after(next)
	}
	return next
}

// after is the row behind next, which is the one behind r.
func (r row) after(next row) row {
	times, rest, _ := zint.Div(r.number, next.number)
	return row{rest, zint.Sub(r.taken, zint.Mul(times, next.taken))}
}
