package fpoly_test

import (
	"fmt"
	"math"
	"math/big"
	"math/rand/v2"
	"slices"
	"testing"

	"cleaver/api"
)

// primes are the least ones, some in the midst, and the greatest ones.
func primes() []int { return []int{2, 3, 5, 7, 11, 251, 4093, 46349, 65519, 65521} }

// noPrimes are numbers by which there is no field.
func noPrimes() []int {
	return []int{math.MinInt, -65521, -7, -1, 0, 1, 4, 9, 65520, 65522, 65536, 65537, 1<<31 - 1, 1<<61 - 1, math.MaxInt}
}

// residue is a number's rest, which is not below 0.
func residue(n, p int) int { return (n%p + p) % p }

// What the tests hold answers against: polynomials as they are made by hand, one residue at a time.

// norm is a polynomial, plain.
func norm(a []int, p int) []int {
	z, end := make([]int, len(a)), 0
	for i, c := range a {
		z[i] = residue(c, p)
		if z[i] > 0 {
			end = i + 1
		}
	}
	return z[:end]
}

func isPlain(a []int, p int) bool {
	for _, c := range a {
		if c < 0 || c >= p {
			return false
		}
	}
	return len(a) == 0 || a[len(a)-1] != 0
}

func plus(a, b []int, p int) []int {
	z := make([]int, max(len(a), len(b)))
	for i := range z {
		if i < len(a) {
			z[i] += residue(a[i], p)
		}
		if i < len(b) {
			z[i] += residue(b[i], p)
		}
	}
	return norm(z, p)
}

func times(a, b []int, p int) []int {
	z := make([]int, len(a)+len(b))
	for i, x := range norm(a, p) {
		for j, y := range norm(b, p) {
			z[i+j] = (z[i+j] + x*y) % p
		}
	}
	return norm(z, p)
}

func minus(a, b []int, p int) []int { return plus(a, times([]int{-1}, b, p), p) }

// over is the inverse of a residue.
func over(a, p int) int {
	return int(new(big.Int).ModInverse(big.NewInt(int64(residue(a, p))), big.NewInt(int64(p))).Int64())
}

// long divides as it is done by hand: from the highest coefficient down, each time so many b are taken away.
func long(a, b []int, p int) (quotient, rest []int) {
	rest, b = norm(a, p), norm(b, p)
	for len(rest) >= len(b) {
		step := make([]int, len(rest)-len(b)+1)
		step[len(step)-1] = rest[len(rest)-1] * over(b[len(b)-1], p) % p
		quotient, rest = plus(quotient, step, p), minus(rest, times(step, b, p), p)
	}
	return quotient, rest
}

// monic is a polynomial by its last coefficient.
func monic(a []int, p int) []int {
	a = norm(a, p)
	if len(a) == 0 {
		return a
	}
	return times(a, []int{over(a[len(a)-1], p)}, p)
}

// want fails, unless a call answered that polynomial, and no error.
func want(t *testing.T, what string, a []int, e api.Errno, wanted []int) {
	t.Helper()
	if e != api.OK || !slices.Equal(a, wanted) {
		t.Fatalf("%s: %v, %v, not %v", what, a, e, wanted)
	}
}

// wantError fails, unless a call answered that error, and nothing beside it.
func wantError(t *testing.T, what string, e, wanted api.Errno, lists ...[]int) {
	t.Helper()
	if e != wanted {
		t.Errorf("%s: %v, not %v", what, e, wanted)
	}
	for _, l := range lists {
		if l != nil {
			t.Errorf("%s: %v beside the error", what, l)
		}
	}
}

// one is what a call answers that may not answer an error.
func one(t *testing.T, p int) func(a []int, e api.Errno) []int {
	return func(a []int, e api.Errno) []int {
		t.Helper()
		if e != api.OK || !isPlain(a, p) {
			t.Fatalf("by %d: %v, %v", p, a, e)
		}
		return a
	}
}

// said tells what was handed to a call.
func said(name string, p int, handed ...any) string {
	return fmt.Sprintf("%s%v by %d", name, handed, p)
}

// maker makes polynomials, always the same ones.
type maker struct{ *rand.Rand }

func newMaker(seed uint64) maker { return maker{rand.New(rand.NewPCG(seed, 0))} }

// coefficient is any int, often one at which something turns.
func (m maker) coefficient(p int) int {
	near := []int{0, 0, 0, 1, -1, p, -p, p - 1, 1 - p, p + 1, math.MinInt, math.MaxInt, math.MaxInt / p * p, math.MinInt / p * p}
	if k := m.IntN(3 * len(near)); k < len(near) {
		return near[k]
	}
	if m.IntN(2) == 0 {
		return m.IntN(p)
	}
	return int(m.Uint64())
}

// some is a polynomial of up to n coefficients, perhaps with noughts at the end.
func (m maker) some(n, p int) []int {
	a := make([]int, m.IntN(n+1))
	for i := range a {
		a[i] = m.coefficient(p)
	}
	return a
}

// unlike is such a polynomial that is not nought.
func (m maker) unlike(n, p int) []int { return append(m.some(n-1, p), 1+m.IntN(p-1)) }

// all are all polynomials of n coefficients by p, those with noughts at the end among them.
func all(n, p int) [][]int {
	lists := [][]int{nil}
	for range n {
		var longer [][]int
		for _, l := range lists {
			for c := range p {
				longer = append(longer, append(slices.Clone(l), c))
			}
		}
		lists = longer
	}
	return lists
}

// edges are polynomials at which something turns, few of them plain.
func edges(p int) [][]int {
	return [][]int{
		nil, {}, {0}, {0, 0, 0}, {p}, {-p, 2 * p}, {math.MinInt / p * p}, {1}, {-1}, {1 - p, 0}, {p + 1, p}, {0, 1}, {0, -1}, {0, 0, p - 1},
		{1, 1}, {-1, 1}, {1, 0, 1, 0}, {2, 3}, {0, p, 0, 1, -p}, {math.MinInt, math.MaxInt}, {math.MaxInt, math.MinInt, math.MaxInt}, {p - 1, p - 1, p - 1},
	}
}

// pairs calls f with many pairs of polynomials by many primes: all that are small enough, edges, long ones.
func pairs(f func(a, b []int, p int)) {
	for _, c := range []struct{ p, n int }{{2, 4}, {3, 3}, {5, 2}} {
		for _, a := range all(c.n, c.p) {
			for _, b := range all(c.n, c.p) {
				f(a, b, c.p)
			}
		}
	}
	m := newMaker(1)
	for _, p := range primes() {
		for _, a := range edges(p) {
			for _, b := range edges(p) {
				f(a, b, p)
			}
		}
		for range 150 {
			f(m.some(9, p), m.some(9, p), p)
		}
		f(m.some(40, p), m.some(40, p), p)
		f(m.unlike(40, p), m.unlike(4, p), p)
	}
}
