package short_test

import (
	"slices"
	"testing"

	"cleaver/api"
)

// P15.1

func TestGoodOfSome(t *testing.T) {
	for _, c := range []struct {
		a    []api.Int
		p    int
		good bool
	}{
		{binomial(4, 1), 17, true}, {binomial(4, 1), 2, false}, {binomial(4, 1), 3, true}, {binomial(4, 1), 65521, true},
		// p divides the last coefficient, or one that is not the last one
		{poly(1, 2), 2, false}, {poly(1, 2), 3, true}, {poly(2, 1), 2, true}, {poly(1, 1, 6), 2, false}, {poly(1, 1, 6), 3, false}, {poly(1, 1, 6), 5, true}, {poly(1, 6, 1), 3, true},
		{poly(1, 1, 0, 1, 10), 5, false}, {poly(1, 1, -5), 5, false}, {poly(1, 0, 0, 65521), 65521, false}, {poly(1, 0, 0, 65521), 65519, true},
		// by p it is squarefree, or not
		{poly(0, 1, 1), 2, true}, {poly(1, 0, 1), 2, false}, {poly(-5, 0, 1), 2, false}, {poly(-5, 0, 1), 5, false}, {poly(-5, 0, 1), 3, true}, {poly(1, 1, 1), 3, false}, {poly(1, 1, 1), 2, true}, {poly(1, 1, 1), 5, true},
		{poly(9, 6, 1), 5, false}, {poly(9, 6, 1), 65521, false}, {times(poly(1, 1), poly(1, 1), poly(0, 1)), 7, false}, {times(poly(1, 1), poly(8, 1)), 7, false}, {times(poly(1, 1), poly(8, 1)), 11, true},
		{binomial(7, -1), 7, false}, {binomial(7, -1), 29, true}, {plus(binomial(7, 0), value(small(-1)), poly(0, 1)), 7, true}, {plus(binomial(13, 0), value(small(-1)), poly(0, 1)), 13, true},
		// numbers say nothing, unless p divides them
		{poly(6, 6), 2, false}, {poly(6, 6), 3, false}, {poly(6, 6), 5, true}, {poly(-6, 0, -6), 7, true}, {poly(20, 0, 4), 3, true}, {poly(20, 0, 4), 2, false},
		// constants are squarefree
		{poly(7), 5, true}, {poly(7), 7, false}, {poly(-1), 2, true}, {poly(0), 0, false}, {poly(-65521), 65521, false}, {poly(7, 0, 0), 5, true}, {poly(7, 0, 0), 7, false},
		// of the highest degree
		{binomial(64, 1), 2, false}, {binomial(64, 1), 3, true}, {binomial(64, -2), 65521, true}, {append(binomial(64, 1), api.Int{}, api.Int{Neg: true}), 3, true}, {times(binomial(63, 1), poly(0, 1)), 7, false},
	} {
		if len(norm(c.a)) > 0 {
			wantGood(t, c.a, c.p, c.good)
		}
	}
}

// Small polynomials, held against the squares of all that there are by p.
func TestGood(t *testing.T) {
	for _, a := range all(5, 2) {
		if len(trim(a)) == 0 {
			continue
		}
		for _, p := range []int{2, 3, 5, 7} {
			wantGood(t, poly(a...), p, mayBeParted(poly(a...), p))
		}
	}
	m := newMaker(1)
	for range 300 {
		a := make([]api.Int, 7)
		for i := range a {
			a[i] = of(two(m.IntN(200)))
			a[i].Abs[0] += m.Uint64() % 100
			a[i].Neg = m.IntN(2) == 1
		}
		for _, p := range []int{2, 3, 5} {
			wantGood(t, m.unplain(a), p, mayBeParted(a, p))
		}
	}
}

// By a number that is no prime, or too great a one, no polynomial may be parted.
func TestGoodByNoPrime(t *testing.T) {
	for _, p := range noPrimes() {
		for _, a := range [][]api.Int{poly(1), poly(0, 1), poly(1, 1, 1), binomial(64, 1), irreducibles()[3], climber(2, 3)} {
			wantGood(t, a, p, false)
		}
	}
}

// Products of unlike polynomials, by primes at which two of them meet, and others.
func TestGoodOfProducts(t *testing.T) {
	for _, p := range []int{2, 3, 5, 7, 11, 101, 65519, 65521} {
		for s := 1; s < 60; s++ {
			wantGood(t, times(poly(0, 1), poly(s, 1)), p, s%p != 0)
			wantGood(t, times(poly(3, 1), poly(s*p+3, 1)), p, false)
			wantGood(t, times(poly(3, 1), poly(s*p+4, 1)), p, true)
			wantGood(t, poly(s, 1, s), p, s%p != 0 && (1-4*s*s)%p != 0)
		}
	}
}

func TestGoodOfNoughtAndLongOnes(t *testing.T) {
	for _, p := range append(noPrimes(), 2, 17, 65521) {
		for _, a := range noughtLists() {
			wantNoGood(t, a, p, api.ErrNought)
		}
		for _, a := range longLists() {
			wantNoGood(t, a, p, api.ErrLimit)
		}
	}
	wantGood(t, slices.Concat(binomial(64, 1), make([]api.Int, 100)), 3, true) // noughts behind degree 64 are of no degree
}
