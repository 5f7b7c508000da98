package short_test

import (
	"math/big"
	"slices"
	"testing"

	"cleaver/api"
	"cleaver/short"
)

// P15.2

func TestNeedOfSome(t *testing.T) {
	for _, c := range []struct {
		a          []api.Int
		p, l, need int
	}{
		// of degree 1 the limit is the sum of the squares alone: 2, 25, 5, 1, which must be passed
		{poly(1, 1), 2, 1, 1}, {poly(3, 4), 2, 1, 3}, {poly(3, 4), 3, 1, 2}, {poly(3, 4), 5, 1, 2}, {poly(-3, 4), 5, 1, 2}, {poly(3, -4), 7, 1, 1}, {poly(1, 2), 2, 1, 2}, {poly(0, 1), 2, 1, 1}, {poly(5, 12), 13, 1, 2}, {poly(5, 12), 17, 1, 1},
		// numbers say nothing
		{poly(6, 8), 5, 1, 2}, {poly(6, 8), 7, 1, 1}, {poly(-30, 40), 5, 1, 2}, {poly(0, 1000), 2, 1, 1},
		// of degree 2 it is 16 times the third power of that sum: 128 of x^2 + 1, 16 of x^2
		{poly(1, 0, 1), 2, 1, 4}, {poly(1, 0, 1), 2, 2, 2}, {poly(1, 0, 1), 3, 1, 3}, {poly(1, 0, 1), 3, 2, 2}, {poly(1, 0, 1), 11, 1, 2}, {poly(1, 0, 1), 13, 1, 1}, {poly(1, 0, 1), 5, 2, 1},
		{poly(0, 0, 1), 2, 1, 3}, {poly(0, 0, 1), 2, 2, 2}, {poly(0, 0, 1), 3, 1, 2}, {poly(0, 0, 7), 5, 1, 1}, {poly(-7, 0, -7), 11, 1, 2},
		// of x^4 + 1 it is 4096 times 160000 times 128; 17 to the power of 8 is less, to that of 10 greater
		{binomial(4, 1), 17, 1, 5}, {binomial(4, 1), 17, 2, 3}, {binomial(4, 1), 17, 3, 2}, {binomial(4, 1), 17, 4, 2}, {binomial(4, 1), 2, 1, 19}, {binomial(4, 1), 2, 4, 5},
	} {
		wantNeed(t, c.a, c.p, c.l, c.need)
		if wanted := needed(c.a, c.p, c.l); wanted != c.need {
			t.Fatalf("%s, %d, %d: by the document's words %d", text(c.a), c.p, c.l, wanted)
		}
	}
}

// checkNeed fails, unless Need answers what the document's words say, be that a limit that is passed.
func checkNeed(t *testing.T, a []api.Int, p, l int) {
	t.Helper()
	if k := needed(a, p, l); k > 1000 {
		wantNoNeed(t, a, p, l, api.ErrLimit)
	} else {
		wantNeed(t, a, p, l, k)
	}
}

// Any polynomials, also such as are not squarefree, or whose last coefficient p divides.
func TestNeed(t *testing.T) {
	for _, a := range all(4, 2) {
		n := len(trim(a)) - 1
		for l := 1; l <= n; l++ {
			for _, p := range []int{2, 3, 5, 65521} {
				checkNeed(t, poly(a...), p, l)
			}
		}
	}
	m := newMaker(2)
	for range 300 {
		a := make([]api.Int, 2+m.IntN(12))
		for i := range a {
			a[i] = of(new(big.Int).Rsh(two(200), uint(m.IntN(200))))
			a[i].Neg = m.IntN(2) == 1
		}
		p := []int{2, 3, 7, 101, 257, 4093, 65521}[m.IntN(7)]
		for l := 1; l < len(a); l++ {
			checkNeed(t, m.unplain(times(a, poly(1+m.IntN(9)))), p, l)
		}
	}
}

// Of each degree and of each l, with small numbers.
func TestNeedOfEachDegree(t *testing.T) {
	for n := 1; n <= api.MaxDeg; n++ {
		for l := 1; l <= n; l += 1 + l/4 {
			checkNeed(t, binomial(n, 1), 257, l)
			checkNeed(t, append(binomial(n, -9), make([]api.Int, 3)...), 65521, l)
			checkNeed(t, binomial(n, 2), 2, l)
		}
		checkNeed(t, binomial(n, 1), 2, n)
	}
}

// The power that is needed is 1000, or more than that. Of x + 2^j the limit is 4^j + 1.
func TestNeedAtTheLimit(t *testing.T) {
	for _, p := range []int{2, 4093, 65521} {
		for j := -2; j <= 1; j++ {
			root := powerOf(p, 1000+j)
			a := []api.Int{of(root), small(1)}
			checkNeed(t, a, p, 1)
			if j < 0 {
				wantNeed(t, a, p, 1, 1001+j)
			} else {
				wantNoNeed(t, a, p, 1, api.ErrLimit)
			}
			below := new(big.Int).Sub(root, big.NewInt(1))
			if a[0] = of(below); j == 0 {
				wantNeed(t, a, p, 1, 1000)
			}
		}
	}
	for _, n := range []int{2, 3, 8, 21, 64} {
		for _, l := range []int{1, n} {
			for _, p := range []int{2, 65521} {
				highest, bits := powerOf(p, 2000*l), 0 // of so many bits the lowest coefficient may not be
				for jump := 1 << 14; jump > 0; jump /= 2 {
					if limitOf(low(n, bits+jump)).Cmp(highest) < 0 {
						bits += jump
					}
				}
				for _, more := range []int{-1, 0, 1, 2, 40} {
					checkNeedNearTheLimit(t, low(n, max(0, bits+more)), p, l)
				}
			}
		}
	}
}

// low is x^n, and so great a power of 2.
func low(n, bits int) []api.Int {
	return append([]api.Int{of(two(bits))}, binomial(n, 0)[1:]...)
}

// checkNeedNearTheLimit does not go up to the power from 1 on.
func checkNeedNearTheLimit(t *testing.T, a []api.Int, p, l int) {
	t.Helper()
	limit := limitOf(a)
	if powerOf(p, 2000*l).Cmp(limit) <= 0 {
		wantNoNeed(t, a, p, l, api.ErrLimit)
		return
	}
	k, e := short.Need(a, p, l)
	if e != api.OK || k < 1 || k > 1000 || powerOf(p, 2*k*l).Cmp(limit) <= 0 || k > 1 && powerOf(p, 2*(k-1)*l).Cmp(limit) > 0 {
		t.Fatalf("Need of %s, %d, %d: %d, %v", text(a), p, l, k, e)
	}
}

// Numbers may be as long as they like.
func TestNeedOfLongNumbers(t *testing.T) {
	great := api.Int{Neg: true, Abs: slices.Repeat([]uint64{most}, api.MaxLimbs)}
	for _, n := range []int{1, 2, 64} {
		a := append(slices.Repeat([]api.Int{great}, n), small(1))
		for _, l := range []int{1, n} {
			wantNoNeed(t, a, 2, l, api.ErrLimit)
			wantNoNeed(t, a, 65521, l, api.ErrLimit)
			wantNeed(t, times(binomial(n, 1), []api.Int{great}), 65521, n, needed(binomial(n, 1), 65521, n)) // all of it content
		}
	}
}

func TestNeedOfNoPrime(t *testing.T) {
	for _, p := range noPrimes() {
		for l := -1; l < 6; l++ {
			wantNoNeed(t, binomial(4, 1), p, l, api.ErrArg)
		}
	}
}

func TestNeedOfNoDegree(t *testing.T) {
	for _, a := range [][]api.Int{poly(5), poly(-1), poly(1, 1), poly(1, 0, 1, 0, 0), binomial(64, 1), {small(1), small(1), {Neg: true}}} {
		n := len(norm(a)) - 1
		for _, l := range []int{-1 << 63, -64, -2, -1, 0, n + 1, n + 2, 65, 1000, 1<<63 - 1} {
			wantNoNeed(t, a, 17, l, api.ErrArg)
			wantNoNeed(t, a, 2, l, api.ErrArg)
		}
		if n > 0 {
			checkNeed(t, a, 17, n)
		}
	}
	for l := -3; l < 4; l++ {
		wantNoNeed(t, poly(7, 0, 0), 17, l, api.ErrArg) // a constant has no such degree
	}
	great := []api.Int{of(two(70000)), small(1)}
	wantNoNeed(t, great, 2, 0, api.ErrArg)
	wantNoNeed(t, great, 2, 2, api.ErrArg)
	wantNoNeed(t, great, 4, 1, api.ErrArg)
	wantNoNeed(t, great, 2, 1, api.ErrLimit)
}

func TestNeedOfNoughtAndLongOnes(t *testing.T) {
	for _, p := range []int{0, 4, 17, 65537} {
		for _, l := range []int{-1, 0, 1, 64, 65, 66} {
			for _, a := range noughtLists() {
				wantNoNeed(t, a, p, l, api.ErrNought)
			}
			for _, a := range longLists() {
				wantNoNeed(t, a, p, l, api.ErrLimit)
			}
		}
	}
}
