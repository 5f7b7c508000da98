package fsqf_test

import (
	"slices"
	"testing"

	"cleaver/api"
	"cleaver/fsqf"
)

// parted is a polynomial, and what the calls answer of it.
type parted struct {
	a       []int
	p       int
	radical []int
	parts   []fsqf.Part
}

// known are some that are parted in the head.
func known() []parted {
	type parts = []fsqf.Part
	return []parted{
		{[]int{0, 0, 0, 1, 1}, 3, []int{0, 1, 1}, parts{{[]int{1, 1}, 1}, {[]int{0, 1}, 3}}},
		{[]int{0, 1}, 2, []int{0, 1}, parts{{[]int{0, 1}, 1}}},
		{[]int{3, 2}, 5, []int{4, 1}, parts{{[]int{4, 1}, 1}}},
		{[]int{0, 0, 1}, 2, []int{0, 1}, parts{{[]int{0, 1}, 2}}},
		{[]int{0, 0, 0, 0, 1}, 2, []int{0, 1}, parts{{[]int{0, 1}, 4}}},
		{[]int{0, 0, 0, 0, 1}, 65521, []int{0, 1}, parts{{[]int{0, 1}, 4}}},
		{[]int{1, 0, 0, 0, 1}, 2, []int{1, 1}, parts{{[]int{1, 1}, 4}}},
		{[]int{1, 0, 1, 0, 1}, 2, []int{1, 1, 1}, parts{{[]int{1, 1, 1}, 2}}},
		{[]int{0, 0, 1, 0, 1}, 2, []int{0, 1, 1}, parts{{[]int{0, 1, 1}, 2}}},
		{[]int{0, 0, 1, 1}, 2, []int{0, 1, 1}, parts{{[]int{1, 1}, 1}, {[]int{0, 1}, 2}}},
		{[]int{0, 0, 1, 1, 1, 1}, 2, []int{0, 1, 1}, parts{{[]int{0, 1}, 2}, {[]int{1, 1}, 3}}},
		{[]int{-1, 0, 0, 0, 0, 0, 1}, 3, []int{2, 0, 1}, parts{{[]int{2, 0, 1}, 3}}},
		{[]int{-1, 0, 0, 0, 0, 0, 1}, 7, []int{6, 0, 0, 0, 0, 0, 1}, parts{{[]int{6, 0, 0, 0, 0, 0, 1}, 1}}},
		{[]int{0, 2, 0, 0, 0, -2}, 5, []int{0, 4, 0, 0, 0, 1}, parts{{[]int{0, 4, 0, 0, 0, 1}, 1}}},
		{[]int{-4, 10, -8, 2}, 65521, []int{2, 65518, 1}, parts{{[]int{65519, 1}, 1}, {[]int{65520, 1}, 2}}},
	}
}

// P8.1

func TestIsOfSome(t *testing.T) {
	for _, c := range known() {
		wantIs(t, c.a, c.p, len(c.parts) == 1 && c.parts[0].N == 1)
	}
}

func TestIs(t *testing.T) {
	some(func(a []int, factors []factor, p int) {
		wantIs(t, a, p, !slices.ContainsFunc(factors, func(f factor) bool { return f.n > 1 }))
	})
}

// By the document's own words: no polynomial of degree 1 or more has a square that divides it.
func TestIsOfNoSquare(t *testing.T) {
	for _, c := range []struct{ p, n int }{{2, 9}, {3, 6}, {5, 4}} {
		var squares [][]int
		for _, root := range all((c.n+1)/2, c.p) {
			if root = norm(root, c.p); len(root) > 1 && root[len(root)-1] == 1 {
				squares = append(squares, times(root, root, c.p))
			}
		}
		for _, a := range all(c.n, c.p) {
			if a = norm(a, c.p); len(a) > 0 {
				wantIs(t, a, c.p, !slices.ContainsFunc(squares, func(s []int) bool { _, goes := over(a, s, c.p); return goes }))
			}
		}
	}
}

func TestRadicalOfSome(t *testing.T) {
	for _, c := range known() {
		wantRadical(t, c.a, c.p, c.radical)
	}
}

func TestRadical(t *testing.T) {
	some(func(a []int, factors []factor, p int) { wantRadical(t, a, p, radicalOf(factors, p)) })
}

// P8.2

func TestPartsOfSome(t *testing.T) {
	for _, c := range known() {
		wantParts(t, c.a, c.p, c.parts)
	}
}

func TestParts(t *testing.T) {
	some(func(a []int, factors []factor, p int) { wantParts(t, a, p, partsOf(factors, p)) })
}

// lowest are up to 16 irreducible polynomials of the lowest degrees.
func lowest(p int) [][]int {
	degrees := map[int]int{2: 6, 3: 4, 5: 3, 7: 2}
	if n := degrees[p]; n > 0 {
		return irreducibles(n, p)[:16]
	}
	var linear [][]int
	for c := range min(p, 16) {
		linear = append(linear, []int{c, 1})
	}
	return linear
}

// Each number is found, be it divided by p, by a power of p, or not, by itself and beside all those below it.
func TestEachNumber(t *testing.T) {
	for _, p := range []int{2, 3, 5, 7, 11, 65521} {
		from := lowest(p)
		for n := 1; n <= 70; n++ {
			alone := []factor{{from[n%2], n}}
			wantParts(t, put(p-1, alone, p), p, partsOf(alone, p))
			pair := []factor{{from[0], n}, {from[1], n/2 + 1}}
			wantParts(t, put(1, pair, p), p, partsOf(pair, p))
		}
		var each []factor
		for i, f := range from {
			each = append(each, factor{f, i + 1})
			wantParts(t, put(1, each, p), p, partsOf(each, p))
		}
	}
}

// Several factors of one number make one part, also if p divides the number.
func TestManyOfOneNumber(t *testing.T) {
	for _, p := range []int{2, 3, 5} {
		for n := 1; n <= 12; n++ {
			var factors []factor
			for _, f := range irreducibles(2, p)[:3] {
				factors = append(factors, factor{f, n})
			}
			a := put(1, factors, p)
			wantParts(t, a, p, []fsqf.Part{{P: radicalOf(factors, p), N: n}})
			wantIs(t, a, p, n == 1)
		}
	}
}

// A constant has no factors, is squarefree, and its radical is 1.
func TestConstants(t *testing.T) {
	for _, p := range primes() {
		for _, a := range constants(p) {
			wantIs(t, a, p, true)
			wantRadical(t, a, p, []int{1})
			wantParts(t, a, p, nil)
		}
	}
}

// What all calls refuse.

func TestNought(t *testing.T) {
	for _, p := range primes() {
		for _, a := range noughts(p) {
			wantError(t, a, p, api.ErrNought)
		}
	}
}

func TestNoField(t *testing.T) {
	for _, p := range noPrimes() {
		for _, a := range [][]int{nil, {}, {0}, {0, 0}, {p}, {1}, {0, 1}, {0, 0, 1}, {1, 2, 1}, make([]int, 1000)} {
			wantError(t, a, p, api.ErrArg)
		}
	}
}
