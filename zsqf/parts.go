package zsqf

import (
	"iter"

	"cleaver/api"
	"cleaver/zgcd"
	"cleaver/zpoly"
)

// parts tells those of a primitive polynomial, that of the lowest number first (Yun's way).
// once is the product of all factors whose number is n or greater; slope is the sum of their derivatives, each so often as
// its number less n - 1 says, and times all other ones of them. Without once's own derivative it has each one less often:
// those whose number is n fall out of the sum, so that they alone divide what is left.
func parts(a []api.Int) iter.Seq2[[]api.Int, int] {
	return func(yield func(part []api.Int, n int) bool) {
		left := repeated(a)
		once, slope := quotient(a, left), quotient(zpoly.Deriv(a), left)
		for n := 1; !isConstant(once); n++ {
			slope = zpoly.Sub(slope, zpoly.Deriv(once))
			part := zgcd.Gcd(once, slope)
			once, slope = quotient(once, part), quotient(slope, part)
			if !isConstant(part) && !yield(part, n) {
				return
			}
		}
	}
}

// repeated is what a polynomial has in common with its derivative: each factor once less than the polynomial itself has it.
func repeated(a []api.Int) []api.Int {
	return zgcd.Gcd(a, zpoly.Deriv(a))
}

// quotient is asked for only where b divides a, and is not nought, so there is no error.
func quotient(a, b []api.Int) []api.Int {
	z, _ := zpoly.Div(a, b)
	return z
}

// isConstant: has a plain polynomial that is not nought the degree 0?
func isConstant(a []api.Int) bool { return len(a) == 1 }
