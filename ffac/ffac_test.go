package ffac_test

import (
	"math"
	"slices"
	"testing"

	"cleaver/api"
	"cleaver/ffac"
)

// Less

func wantLess(t *testing.T, a, b []int, wanted bool) {
	t.Helper()
	if ffac.Less(a, b) != wanted {
		t.Fatalf("Less(%v, %v): not %v", a, b, wanted)
	}
}

// Each of these stands ahead of all behind it: fewer coefficients first, be they what they are, then the highest ones.
func TestLess(t *testing.T) {
	inOrder := [][]int{
		{}, {math.MinInt}, {-1}, {0}, {1}, {7}, {math.MaxInt},
		{0, math.MinInt}, {5, -3}, {6, -3}, {0, 0}, {1, 0}, {math.MinInt, 1}, {0, 1}, {1, 1}, {4, 1}, {math.MinInt, 2}, {0, 2},
		{0, 0, 0}, {1, 0, 0}, {0, 1, 0}, {1, 1, 0}, {9, 1, 0}, {0, 2, 0}, {4, 0, 1}, {3, 1, 1}, {1, 2, 1}, {2, 2, 1}, {0, 9, 1}, {-1, -1, 2},
		{0, 0, 0, 1},
	}
	for i, a := range inOrder {
		for k, b := range inOrder {
			wantLess(t, a, b, i < k)
		}
	}
	for _, a := range inOrder {
		wantLess(t, a, slices.Clone(a), false)
	}
	wantLess(t, nil, nil, false)
	wantLess(t, nil, []int{}, false)
	wantLess(t, []int{}, nil, false)
	wantLess(t, nil, []int{math.MinInt}, true)
	wantLess(t, []int{math.MinInt}, nil, false)
}

// Of as many coefficients each polynomial is a number, the highest coefficient its first digit.
func TestLessByNumber(t *testing.T) {
	number := func(a []int) int {
		z := 0
		for _, c := range slices.Backward(a) {
			z = z*4 + c
		}
		return z
	}
	var lists [][]int
	for n := range 5 {
		lists = append(lists, all(n, 4)...)
	}
	for _, a := range lists {
		for _, b := range lists {
			wantLess(t, a, b, len(a) < len(b) || len(a) == len(b) && number(a) < number(b))
		}
	}
}

// parted is a polynomial, and what the calls answer of it.
type parted struct {
	a       []int
	p       int
	factors []factor
}

// known are some that are parted in the head.
func known() []parted {
	type factors = []factor
	return []parted{
		{[]int{1, 0, 1}, 5, factors{{[]int{2, 1}, 1}, {[]int{3, 1}, 1}}},
		{[]int{1, 0, 1}, 3, factors{{[]int{1, 0, 1}, 1}}},
		{[]int{0, -1, 0, 1}, 3, factors{{[]int{0, 1}, 1}, {[]int{1, 1}, 1}, {[]int{2, 1}, 1}}},
		{[]int{0, 1}, 2, factors{{[]int{0, 1}, 1}}},
		{[]int{1, 1}, 2, factors{{[]int{1, 1}, 1}}},
		{[]int{3, 2}, 5, factors{{[]int{4, 1}, 1}}},
		{[]int{3, 2, 5}, 5, factors{{[]int{4, 1}, 1}}},
		{[]int{-3, -2, 65521}, 65521, factors{{[]int{32762, 1}, 1}}},
		{[]int{0, 1, 1}, 2, factors{{[]int{0, 1}, 1}, {[]int{1, 1}, 1}}},
		{[]int{1, 0, 1}, 2, factors{{[]int{1, 1}, 2}}},
		{[]int{1, 1, 1}, 2, factors{{[]int{1, 1, 1}, 1}}},
		{[]int{1, 0, 1, 0, 1}, 2, factors{{[]int{1, 1, 1}, 2}}},
		{[]int{0, 0, 0, 2, 2}, 3, factors{{[]int{0, 1}, 3}, {[]int{1, 1}, 1}}},
		{[]int{1, 0, 0, 0, 1}, 17, factors{{[]int{2, 1}, 1}, {[]int{8, 1}, 1}, {[]int{9, 1}, 1}, {[]int{15, 1}, 1}}},
		{[]int{1, 0, 0, 0, 1}, 3, factors{{[]int{2, 1, 1}, 1}, {[]int{2, 2, 1}, 1}}},
		{[]int{1, 0, 0, 0, 1}, 5, factors{{[]int{2, 0, 1}, 1}, {[]int{3, 0, 1}, 1}}},
		{[]int{-1, 0, 0, 0, 0, 0, 0, 1}, 2, factors{{[]int{1, 1}, 1}, {[]int{1, 1, 0, 1}, 1}, {[]int{1, 0, 1, 1}, 1}}},
		{[]int{-4, 10, -8, 2}, 65521, factors{{[]int{65519, 1}, 1}, {[]int{65520, 1}, 2}}},
	}
}

// P9.1

func TestIrreducibleOfSome(t *testing.T) {
	for _, c := range known() {
		wantIrreducible(t, c.a, c.p, len(c.factors) == 1 && c.factors[0].n == 1)
	}
}

func TestIrreducible(t *testing.T) {
	some(func(a []int, factors []factor, p int) {
		wantIrreducible(t, a, p, len(factors) == 1 && factors[0].n == 1)
	})
}

// By the document's own words: it is no product of two of degree 1 or more.
func TestIrreducibleOfNoProduct(t *testing.T) {
	for _, c := range []struct{ p, n int }{{2, 8}, {3, 5}, {5, 4}, {7, 3}} {
		var polynomials [][]int
		for _, a := range all(c.n, c.p) {
			if a = norm(a, c.p); len(a) > 1 {
				polynomials = append(polynomials, a)
			}
		}
		products := map[string]bool{}
		for _, a := range polynomials {
			for _, b := range polynomials {
				if len(a)+len(b)-1 <= c.n && a[len(a)-1] == 1 {
					products[key(times(a, b, c.p))] = true
				}
			}
		}
		for _, a := range polynomials {
			wantIrreducible(t, a, c.p, !products[key(a)])
		}
	}
}

// key is a list of small residues as a text.
func key(a []int) string {
	var z []byte
	for _, c := range a {
		z = append(z, byte(c))
	}
	return string(z)
}

// Each power of what can't be parted can: no number of ownPowers tells that.
func TestPowersAreReducible(t *testing.T) {
	for _, p := range primes() {
		for _, f := range append(grown(p), []int{0, 1}, []int{1, 1}) {
			for n := 2; n*(len(f)-1) <= min(maxDegree, 20); n++ {
				wantIrreducible(t, power(f, n, p), p, false)
			}
		}
	}
}

// P9.2

// degreesOf are the products of unlike factors that are there once, degree by degree.
func degreesOf(a []int, factors []factor, p int) [][]int {
	var products [][]int
	for d := 1; d < len(norm(a, p)); d++ {
		product := []int{1}
		for _, f := range factors {
			if len(f.f)-1 == d {
				product = times(product, f.f, p)
			}
		}
		products = append(products, product)
	}
	return products
}

func TestDegreesOfSome(t *testing.T) {
	wantDegrees(t, []int{0, -1, 0, 1}, 3, [][]int{{0, 2, 0, 1}, {1}, {1}})
	wantDegrees(t, []int{1, 0, 1}, 3, [][]int{{1}, {1, 0, 1}})
	wantDegrees(t, []int{-2, 0, -2}, 5, [][]int{{1, 0, 1}, {1}})
	wantDegrees(t, []int{0, 7}, 11, [][]int{{0, 1}})
	wantDegrees(t, []int{0, 7, 11, -22}, 11, [][]int{{0, 1}})
	wantDegrees(t, []int{1, 0, 0, 0, 0, 0, 0, 1}, 2, [][]int{{1, 1}, {1}, {1, 1, 1, 1, 1, 1, 1}, {1}, {1}, {1}, {1}})
	wantDegrees(t, []int{0, 1, 0, 0, 1}, 2, [][]int{{0, 1, 1}, {1, 1, 1}, {1}, {1}})
}

func TestDegrees(t *testing.T) {
	someSquarefree(func(a []int, factors []factor, p int) { wantDegrees(t, a, p, degreesOf(a, factors, p)) })
}

// P9.3

func TestSplitAndFactorsOfSome(t *testing.T) {
	for _, c := range known() {
		wantFactors(t, c.a, c.p, nil, c.factors)
		if isSquarefree(c.factors) {
			wantSplit(t, c.a, c.p, nil, polynomials(c.factors))
		}
	}
}

// polynomials are factors, without how often they are there.
func polynomials(factors []factor) [][]int {
	var z [][]int
	for _, f := range factors {
		z = append(z, f.f)
	}
	return z
}

func TestSplit(t *testing.T) {
	m := newMaker(2)
	someSquarefree(func(a []int, factors []factor, p int) {
		wantSplit(t, a, p, m.draws(p), polynomials(inOrder(factors)))
	})
}

func TestFactors(t *testing.T) {
	m := newMaker(3)
	some(func(a []int, factors []factor, p int) { wantFactors(t, a, p, m.draws(p), inOrder(factors)) })
}

// All irreducible polynomials whose degrees divide d are there at once, each once: their product is x^(p^d) - x.
func TestAllOfSomeDegrees(t *testing.T) {
	for _, c := range []struct{ p, d int }{{2, 1}, {2, 2}, {2, 3}, {2, 4}, {2, 5}, {2, 6}, {3, 1}, {3, 2}, {3, 3}, {5, 1}, {5, 2}, {7, 1}, {11, 1}, {31, 1}, {61, 1}} {
		degree := 1
		for range c.d {
			degree *= c.p
		}
		a := make([]int, degree+1)
		a[1], a[degree] = -1, 1
		var factors []factor
		for _, f := range irreducibles(c.d, c.p) {
			if c.d%(len(f)-1) == 0 {
				factors = append(factors, factor{f, 1})
			}
		}
		wantSplit(t, a, c.p, nil, polynomials(inOrder(factors)))
		wantFactors(t, a, c.p, []int{1, 2, 3}, inOrder(factors))
		wantDegrees(t, a, c.p, degreesOf(a, factors, c.p))
	}
}

// As many factors of degree 1 as there can be, their numbers side by side, all squares, all none, or spread.
func TestManyOfDegreeOne(t *testing.T) {
	for _, p := range []int{67, 251, 257, 46349, 65519, 65521} {
		isSquare := make([]bool, p)
		for x := 1; x < p; x++ {
			isSquare[x*x%p] = true
		}
		c := generator(p)
		for _, taken := range []func(x int) bool{
			func(x int) bool { return true },
			func(x int) bool { return isSquare[x] },
			func(x int) bool { return !isSquare[x] },
			func(x int) bool { return x*c%p%64 == 1 },
			func(x int) bool { return x%2 == 0 },
		} {
			var factors []factor
			for x := range p {
				if taken(x) && len(factors) < maxDegree {
					factors = append(factors, factor{[]int{x, 1}, 1})
				}
			}
			a := put(1, factors, p)
			wantSplit(t, a, p, nil, polynomials(factors))
			wantSplit(t, a, p, []int{1, -1, p / 2, c}, polynomials(factors))
		}
	}
}

// x to the power of some number, and all that is left of 64, of one factor or two.
func TestHighPowers(t *testing.T) {
	for _, p := range primes() {
		for n := 1; n <= maxDegree; n++ {
			wantFactors(t, power([]int{1, 1}, n, p), p, nil, []factor{{[]int{1, 1}, n}})
			if n < maxDegree {
				both := []factor{{[]int{0, 1}, n}, {[]int{1, 1}, maxDegree - n}}
				wantFactors(t, put(1, both, p), p, nil, both)
			}
		}
	}
}

// What is answered, or refused, at the edges.

// A constant has no factors, no degrees, and is not irreducible.
func TestConstants(t *testing.T) {
	for _, p := range primes() {
		for _, a := range constants(p) {
			wantIrreducible(t, a, p, false)
			wantDegrees(t, a, p, nil)
			wantSplit(t, a, p, nil, nil)
			wantSplit(t, a, p, []int{1, 2, 3}, nil)
			wantFactors(t, a, p, nil, nil)
			wantFactors(t, a, p, []int{1, 2, 3}, nil)
		}
	}
}

func TestNotSquarefree(t *testing.T) {
	some(func(a []int, factors []factor, p int) {
		if isSquarefree(factors) {
			return
		}
		products, e := ffac.Degrees(a, p)
		single, f := ffac.Split(a, p, nil)
		if e != api.ErrArg || f != api.ErrArg || products != nil || single != nil {
			t.Fatalf("%s: %v, %v, %v, %v", said("", p, a), products, e, single, f)
		}
	})
}

func TestNought(t *testing.T) {
	for _, p := range primes() {
		for _, a := range noughts(p) {
			wantError(t, a, p, api.ErrNought, api.ErrNought)
		}
	}
}

// The degree is that of the plain polynomial; above the limit no call asks for squares.
func TestDegreeLimit(t *testing.T) {
	for _, p := range primes() {
		for degree := maxDegree + 1; degree <= 5*maxDegree; degree += 1 + degree/20 {
			lone := append(make([]int, degree), 1)
			wantError(t, lone, p, api.ErrLimit, api.ErrLimit)
			lone[0], lone[1] = 1, p-1
			wantError(t, append(lone, 0, p, 0), p, api.ErrLimit, api.ErrLimit)
		}
		highest := append(make([]int, maxDegree), 1)
		highest = append(highest, make([]int, 1000)...)
		highest[1000] = 5 * p
		wantFactors(t, highest, p, nil, []factor{{[]int{0, 1}, maxDegree}})
		wantIrreducible(t, highest, p, false)
	}
	whole := make([]int, maxDegree+1)
	whole[1], whole[maxDegree] = 1, 1
	if factors, e := ffac.Split(whole, 2, nil); e != api.OK || len(factors) != 2+1+2+9 {
		t.Error(factors, e)
	}
	alone := append(make([]int, maxDegree), 1)
	alone[0] = -generator(257)
	wantIrreducible(t, alone, 257, true)
	wantSplit(t, alone, 257, nil, [][]int{norm(alone, 257)})
	wantDegrees(t, alone, 257, append(slices.Repeat([][]int{{1}}, maxDegree-1), norm(alone, 257)))
}

func TestNoField(t *testing.T) {
	for _, p := range noPrimes() {
		for _, a := range [][]int{nil, {}, {0}, {0, 0}, {p}, {1}, {0, 1}, {0, 0, 1}, {1, 2, 1}, make([]int, 1000), append(make([]int, 100), 1)} {
			wantError(t, a, p, api.ErrArg, api.ErrArg)
		}
	}
}
