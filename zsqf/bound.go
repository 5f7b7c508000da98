package zsqf

import (
	"cleaver/api"
	"cleaver/zint"
)

// bound is 2 to the power of the degree times the length of a plain polynomial that is not nought, rounded up:
// a divisor's coefficients are at most so great (Mignotte).
func bound(a []api.Int) api.Int {
	squares := api.Int{}
	for _, c := range a {
		squares = zint.Add(squares, zint.Mul(c, c))
	}
	degree := len(a) - 1
	twos, _ := zint.Pow(zint.Of(2), degree) // no degree that is let in is too great
	return zint.Mul(twos, rootUp(squares))
}

// rootUp is the least natural whose square is not less than a number above 0: the next one after the greatest whose
// square is less.
func rootUp(a api.Int) api.Int {
	one := zint.Of(1)
	below, _ := zint.Root(zint.Sub(a, one), 2) // there is a root, as that is not below 0
	return zint.Add(below, one)
}
