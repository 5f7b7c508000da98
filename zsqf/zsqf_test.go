package zsqf_test

import (
	"math/big"
	"slices"
	"testing"

	"cleaver/api"
	"cleaver/zsqf"
)

// parted is a polynomial, and what the calls answer of it.
type parted struct {
	a, radical []api.Int
	parts      []zsqf.Part
}

// known are some that are parted in the head.
func known() []parted {
	type parts = []zsqf.Part
	great := []api.Int{num("-0x1_0000000000000000"), small(1)}
	return []parted{
		{poly(2, -2, -2, 2), poly(-1, 0, 1), parts{{poly(1, 1), 1}, {poly(-1, 1), 2}}},
		{poly(0, 1), poly(0, 1), parts{{poly(0, 1), 1}}},
		{poly(0, -5), poly(0, 1), parts{{poly(0, 1), 1}}},
		{poly(4, -6), poly(-2, 3), parts{{poly(-2, 3), 1}}},
		{poly(0, 0, 1), poly(0, 1), parts{{poly(0, 1), 2}}},
		{poly(0, 0, -8), poly(0, 1), parts{{poly(0, 1), 2}}},
		{poly(-1, 0, 1), poly(-1, 0, 1), parts{{poly(-1, 0, 1), 1}}},
		{poly(1, 2, 1), poly(1, 1), parts{{poly(1, 1), 2}}},
		{poly(-1, -2, -1), poly(1, 1), parts{{poly(1, 1), 2}}},
		{poly(1, 4, 4), poly(1, 2), parts{{poly(1, 2), 2}}},
		{poly(-12, 36, -27), poly(-2, 3), parts{{poly(-2, 3), 2}}},
		{poly(1, 0, 2, 0, 1), poly(1, 0, 1), parts{{poly(1, 0, 1), 2}}},
		{poly(1, 0, 0, 0, 1), poly(1, 0, 0, 0, 1), parts{{poly(1, 0, 0, 0, 1), 1}}},
		{poly(0, 0, 1, 1), poly(0, 1, 1), parts{{poly(1, 1), 1}, {poly(0, 1), 2}}},
		{poly(0, 0, 0, 1, 1), poly(0, 1, 1), parts{{poly(1, 1), 1}, {poly(0, 1), 3}}},
		{poly(0, 0, 0, -1, 0, 1), poly(0, -1, 0, 1), parts{{poly(-1, 0, 1), 1}, {poly(0, 1), 3}}},
		{poly(0, 0, 1, 2, 1), poly(0, 1, 1), parts{{poly(0, 1, 1), 2}}},
		{poly(1, 0, -2, 0, 1), poly(-1, 0, 1), parts{{poly(-1, 0, 1), 2}}},
		{poly(1, 3, 3, 1), poly(1, 1), parts{{poly(1, 1), 3}}},
		{power(64), poly(0, 1), parts{{poly(0, 1), 64}}},
		{times(power(63), poly(1, 2)), poly(0, 1, 2), parts{{poly(1, 2), 1}, {poly(0, 1), 63}}},
		{times(great, great, poly(1, 0, 1), poly(-3)), times(great, poly(1, 0, 1)), parts{{poly(1, 0, 1), 1}, {great, 2}}},
	}
}

// P12.1

func TestIsOfSome(t *testing.T) {
	for _, c := range known() {
		wantIs(t, c.a, len(c.parts) == 1 && c.parts[0].N == 1)
	}
}

func TestIs(t *testing.T) {
	some(func(a []api.Int, factors []factor) { wantIs(t, a, isFree(factors)) })
}

// By the document's own words: no polynomial of degree 1 or more has a square that divides it. The last number's square
// divides the last one, the first one's the lowest that is not 0, unless it is x that divides.
func TestIsOfNoSquare(t *testing.T) {
	squares := [][]int{{0, 0, 1}}
	for _, last := range []int{1, 2} {
		for first := -2; first <= 2; first++ {
			squares = append(squares, []int{first * first, 2 * first * last, last * last})
		}
	}
	for _, a := range all(4, 4) {
		if a = trim(a); len(a) > 0 {
			wantIs(t, poly(a...), !slices.ContainsFunc(squares, func(s []int) bool {
				twice := slices.Clone(a) // numbers say nothing
				for i := range twice {
					twice[i] *= 16
				}
				_, ok := goes(twice, s)
				return ok
			}))
		}
	}
}

func TestRadicalOfSome(t *testing.T) {
	for _, c := range known() {
		wantRadical(t, c.a, c.radical)
	}
}

func TestRadical(t *testing.T) {
	some(func(a []api.Int, factors []factor) { wantRadical(t, a, radicalOf(factors)) })
}

// P12.2

func TestPartsOfSome(t *testing.T) {
	for _, c := range known() {
		wantParts(t, c.a, c.parts)
	}
}

func TestParts(t *testing.T) {
	some(func(a []api.Int, factors []factor) { wantParts(t, a, partsOf(factors)) })
}

// Each number is found, by itself and beside another one, also one far from it.
func TestEachNumber(t *testing.T) {
	for n := 1; n <= api.MaxDeg; n++ {
		for _, f := range [][]api.Int{poly(0, 1), poly(-3, 2)} {
			alone := []factor{{f, n}}
			wantParts(t, put(small(-6), alone), partsOf(alone))
		}
		for _, other := range []int{1, n/2 + 1, n - 1, n} {
			if other > 0 && n+other <= api.MaxDeg {
				pair := []factor{{poly(1, 1), n}, {poly(-1, 2), other}}
				wantParts(t, put(small(4), pair), partsOf(pair))
			}
		}
		if 2*n <= api.MaxDeg {
			alone := []factor{{poly(1, 1, 1), n}}
			wantParts(t, put(small(1), alone), partsOf(alone))
		}
	}
}

// Several parts, with and without numbers between them that none has.
func TestLadders(t *testing.T) {
	lines := [][]api.Int{poly(1, 1), poly(0, 1), poly(-1, 2), poly(-2, 3), poly(5, 1), poly(3, 4), poly(-1, 1), poly(7, 2), poly(1, 6), poly(-9, 5)}
	for _, numbers := range [][]int{{1, 2, 3, 4, 5, 6, 7, 8, 9, 10}, {10, 9, 8, 7, 6, 5, 4, 3, 2, 1}, {2, 4, 6, 8, 10}, {1, 1, 2, 2, 3, 3}, {7, 1, 7, 1}, {1, 30, 33}, {5, 5, 5, 5, 5}, {3, 13, 20}, {2, 2, 2, 60 - 12}} {
		var factors []factor
		for i, n := range numbers {
			factors = append(factors, factor{lines[i], n})
		}
		a := put(small(-10), factors)
		wantParts(t, a, partsOf(factors))
		wantRadical(t, a, radicalOf(factors))
		wantIs(t, a, false)
	}
}

// Several factors of one number make one part.
func TestManyOfOneNumber(t *testing.T) {
	from := [][]api.Int{poly(0, 1), poly(1, 1, 1), poly(3, 0, 2), poly(-7, 4)}
	for n := 1; n <= 10; n++ {
		var factors []factor
		for _, f := range from {
			factors = append(factors, factor{f, n})
		}
		a := put(small(15), factors)
		wantParts(t, a, []zsqf.Part{{P: radicalOf(factors), N: n}})
		wantIs(t, a, n == 1)
	}
}

// x^n - 1 is squarefree; squared it is one part.
func TestCircles(t *testing.T) {
	for n := 1; n <= api.MaxDeg; n++ {
		a := power(n)
		a[0] = small(-1)
		wantIs(t, a, true)
		wantParts(t, a, []zsqf.Part{{P: a, N: 1}})
		wantRadical(t, a, a)
		if 2*n <= api.MaxDeg {
			wantParts(t, times(a, a), []zsqf.Part{{P: a, N: 2}})
		}
	}
}

// A constant has no factors, is squarefree, and its radical is 1.
func TestConstants(t *testing.T) {
	for _, a := range constants() {
		wantIs(t, a, true)
		wantRadical(t, a, poly(1))
		wantParts(t, a, nil)
		wantBound(t, a, value(of(values(a)[0].Abs(values(a)[0]))))
	}
}

// eisenstein is a primitive irreducible polynomial of n numbers of some 130 bits: 2 divides all but the last one, 4 not the first one.
func (m maker) eisenstein(n int) []api.Int {
	f := make([]*big.Int, n)
	for i := range f {
		f[i] = new(big.Int).SetUint64(m.Uint64() | 1)
		f[i].Mul(f[i], f[i]).Lsh(f[i], 1)
	}
	f[1].SetInt64(2) // it has nothing in common with the last one
	f[n-1].Add(f[n-1], big.NewInt(1))
	return plain(f)
}

// Coefficients of many bits, such as products have that are factored later on.
func TestGreatOnes(t *testing.T) {
	m := newMaker(2)
	for range 3 {
		var factors []factor
		for n := 1; n <= 3; n++ {
			factors = append(factors, factor{m.eisenstein(3 + n), n})
		}
		for i := range factors {
			for _, list := range [][]factor{factors[i : i+1], factors[i:], factors} {
				a := put(m.number(), list)
				wantParts(t, a, partsOf(list))
				wantRadical(t, a, radicalOf(list))
				wantIs(t, a, isFree(list))
			}
		}
	}
	long := []factor{{m.eisenstein(33), 1}, {m.eisenstein(17), 2}}
	wantParts(t, put(small(-1), long), partsOf(long))
}

// P12.3

func TestBoundOfSome(t *testing.T) {
	for _, c := range []struct {
		a     []api.Int
		bound int
	}{
		{poly(-1, 0, 1), 8}, {poly(1), 1}, {poly(-1), 1}, {poly(-7), 7}, {poly(7, 0, 0), 7}, {poly(0, 1), 2}, {poly(0, -1), 2}, {poly(1, 1), 4}, {poly(1, -1), 4},
		{poly(3, 4), 10}, {poly(-3, 4), 10}, {poly(3, -4), 10}, {poly(3, 4, 1), 24}, {poly(3, 4, 0), 10}, {poly(5, 12), 26}, {poly(5, 12, 1), 56}, {poly(12, 5, 1), 56},
		{poly(1, 1, 1, 1), 16}, {poly(0, 0, 0, 2), 16}, {poly(0, 0, 1, 2), 24}, {poly(1, 1, 1, 1, 1), 48}, {poly(2, 2, 2, 2), 32}, {poly(2, 2, 2, 3), 40},
	} {
		wantBound(t, c.a, big.NewInt(int64(c.bound)))
		wantBound(t, c.a, boundOf(c.a))
	}
}

func TestBound(t *testing.T) {
	some(func(a []api.Int, _ []factor) { wantBound(t, a, boundOf(a)) })
	for _, a := range all(3, 6) {
		if len(trim(a)) > 0 {
			wantBound(t, poly(a...), boundOf(poly(a...)))
		}
	}
}

// Of each degree up to the highest, with sums of squares that are squares, one less, and one more.
func TestBoundOfEachDegree(t *testing.T) {
	for n := 0; n <= api.MaxDeg; n++ {
		a := make([]api.Int, n+1)
		for i := range a {
			a[i] = small(1)
		}
		wantBound(t, a, boundOf(a)) // n + 1 is the sum, which all squares up to 64 are among
		wantBound(t, power(n), new(big.Int).Lsh(big.NewInt(1), uint(n)))
	}
	for _, s := range []string{"0xffff_ffff", "0x1_0000_0000", "0xffffffffffffffff", "0x1_0000000000000000", "0x123456789abcdef_123456789abcdef123456789abcdef_0000000000000001"} {
		great := num(s)
		wantBound(t, []api.Int{great}, value(great))
		for _, c := range [][]api.Int{{great, {}}, {{}, great}, {small(1), great}, {great, small(-1)}, {great, great}, {great, {}, {}, great}} {
			wantBound(t, c, boundOf(c))
		}
	}
	root := new(big.Int).Lsh(big.NewInt(3), 200)
	legs := []api.Int{of(root), of(new(big.Int).Lsh(big.NewInt(4), 200))} // 3 and 4 make 5
	wantBound(t, legs, new(big.Int).Lsh(big.NewInt(10), 200))
	up := new(big.Int).Lsh(big.NewInt(5), 200)
	up.Add(up, big.NewInt(1))
	wantBound(t, append([]api.Int{small(1)}, legs...), up.Lsh(up, 2)) // but with 1 beside them one more is needed
}

// What all calls refuse.

func TestNought(t *testing.T) {
	for _, a := range noughtLists() {
		wantError(t, a, api.ErrNought)
	}
}

func TestDegreeAboveTheLimit(t *testing.T) {
	for _, a := range [][]api.Int{power(65), append(make([]api.Int, 65), small(-7)), append(slices.Repeat(poly(1), 66), make([]api.Int, 9)...), power(66), power(128), power(5000)} {
		wantError(t, a, api.ErrLimit)
	}
}

// Noughts behind degree 64 are of no degree.
func TestHighestDegree(t *testing.T) {
	behind := []api.Int{{}, {Neg: true}, {Abs: []uint64{0, 0}}}
	a := power(64)
	for _, whole := range [][]api.Int{a, slices.Concat(a, behind)} {
		wantIs(t, whole, false)
		wantRadical(t, whole, poly(0, 1))
		wantParts(t, whole, []zsqf.Part{{P: poly(0, 1), N: 64}})
		wantBound(t, whole, new(big.Int).Lsh(big.NewInt(1), 64))
	}
}
