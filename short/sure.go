package short

import (
	"iter"

	"cleaver/api"
	"cleaver/hensel"
	"cleaver/zgcd"
	"cleaver/zint"
	"cleaver/zpoly"
)

// surely is the factor of a primitive polynomial that h, a local factor by p^k, belongs to; k is at least what is needed.
// Of the polynomials of a lower degree that h divides by p^k, the factor divides those that are short. If it is of a lower
// degree itself, a reduced basis has so many short ones that they have nothing else in common; if it is the whole, none
// (Lenstra, Lenstra, Lovász).
func surely(whole, h []api.Int, p, k int) []api.Int {
	modulus, _ := hensel.Power(p, k)
	h, _ = hensel.Red(h, modulus)
	degree := len(whole) - 1
	ofWhole, limit := power(squareOf(whole), degree-1), power(modulus, 2*(len(h)-1))
	var common []api.Int
	for _, row := range reduced(multiples(h, modulus, degree)) {
		if zint.Cmp(zint.Mul(ofWhole, power(squareOf(row), degree)), limit) < 0 {
			common = zgcd.Gcd(common, row)
		}
	}
	if len(common) == 0 {
		return whole
	}
	return zpoly.Prim(common)
}

// multiples tells a basis of the polynomials of n coefficients that h, which is monic, divides by m: m at each place below
// that of h's last one, then h, from each place on from which it has room.
func multiples(h []api.Int, m api.Int, n int) iter.Seq[[]api.Int] {
	return func(yield func(row []api.Int) bool) {
		for place := range n {
			row := make([]api.Int, n)
			if from := place - (len(h) - 1); from < 0 {
				row[place] = m
			} else {
				copy(row[from:], h)
			}
			if !yield(row) {
				return
			}
		}
	}
}
