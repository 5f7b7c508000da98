package ffac_test

import (
	"math"
	"slices"
	"testing"

	"cleaver/api"
	"cleaver/ffac"
	"cleaver/fpoly"
)

// P9.4: what follows, told by the calls alone.

// answered is what a call answers that may not answer an error.
func answered[T any](t *testing.T) func(a T, e api.Errno) T {
	return func(a T, e api.Errno) T {
		t.Helper()
		if e != api.OK {
			t.Fatal(a, e)
		}
		return a
	}
}

// same: are the factors alike?
func same(a, b []ffac.Factor) bool {
	return slices.EqualFunc(a, b, func(x, y ffac.Factor) bool { return x.N == y.N && slices.Equal(x.P, y.P) })
}

// someDraws are many, of all kinds: none, alike ones, plain ones, those that are none, more than are ever needed.
func someDraws(m maker, p int) [][]int {
	z := [][]int{nil, {}, {0}, {1}, {-1}, {p - 1}, {p / 2}, {math.MinInt}, {math.MaxInt}, make([]int, 1000), {4: 1}, {1, 2, 3, 4, 5}}
	for range 8 {
		z = append(z, m.draws(p))
	}
	return z
}

// Draws turn nothing.
func TestDraws(t *testing.T) {
	m := newMaker(4)
	for _, p := range primes() {
		from := grown(p)
		for range 4 {
			f := put(1, m.factors(from, 2*maxDegree, 1+m.IntN(maxDegree), 1, p), p)
			a := put(1, m.factors(from, 20, maxDegree, 3, p), p)
			factors, single := answered[[]ffac.Factor](t)(ffac.Factors(a, p, nil)), answered[[][]int](t)(ffac.Split(f, p, nil))
			for _, draws := range someDraws(m, p) {
				wantSplit(t, f, p, draws, single)
				if other := answered[[]ffac.Factor](t)(ffac.Factors(a, p, draws)); !same(other, factors) {
					t.Fatalf("%s, %v: %v, not %v", said("Factors", p, a), draws, other, factors)
				}
			}
		}
	}
}

// Nor does a residue of any kind, where the shifts are to begin.
func TestEachDraw(t *testing.T) {
	for _, p := range []int{2, 3, 5, 7, 11, 13, 31} {
		a := make([]int, p+1)
		a[1], a[p] = p-1, 1
		wanted := answered[[][]int](t)(ffac.Split(a, p, nil))
		for c := range p {
			for d := range p {
				wantSplit(t, a, p, []int{c, d, d, c}, wanted)
			}
		}
	}
	two := []int{0, 1, 1}
	for draw := 0; draw < 65521; draw += 7 {
		wantSplit(t, two, 65521, []int{0, draw}, [][]int{{0, 1}, {1, 1}})
	}
}

func TestProductOfFactors(t *testing.T) {
	list := answered[[]int](t)
	some(func(a []int, _ []factor, p int) {
		plain := list(fpoly.Norm(a, p))
		product := plain[len(plain)-1:]
		for _, f := range answered[[]ffac.Factor](t)(ffac.Factors(a, p, nil)) {
			for range f.N {
				product = list(fpoly.Mul(product, f.P, p))
			}
		}
		if !slices.Equal(product, plain) {
			t.Fatalf("%s: its product is %v", said("Factors", p, a), product)
		}
	})
}

// product is that of polynomials.
func product(t *testing.T, factors [][]int, p int) []int {
	z := []int{1}
	for _, f := range factors {
		z = answered[[]int](t)(fpoly.Mul(z, f, p))
	}
	return z
}

func TestProductOfSplitAndDegrees(t *testing.T) {
	lists := answered[[][]int](t)
	someSquarefree(func(a []int, _ []factor, p int) {
		monic := answered[[]int](t)(fpoly.Monic(a, p))
		single, products := lists(ffac.Split(a, p, nil)), lists(ffac.Degrees(a, p))
		if !slices.Equal(product(t, single, p), monic) || !slices.Equal(product(t, products, p), monic) {
			t.Fatalf("%s: %v, %v", said("", p, a), single, products)
		}
		var byDegree []int
		for _, f := range single {
			byDegree = append(byDegree, len(f)-1)
		}
		for i, degree := range products {
			var alike [][]int
			for k, f := range single {
				if byDegree[k] == i+1 {
					alike = append(alike, f)
				}
			}
			if !slices.Equal(product(t, alike, p), degree) {
				t.Fatalf("%s: %v, %v", said("", p, a), single, products)
			}
		}
	})
}

// Each factor is monic, irreducible, its own only one, and stands ahead of the next one.
func TestFactorsForm(t *testing.T) {
	some(func(a []int, _ []factor, p int) {
		factors := answered[[]ffac.Factor](t)(ffac.Factors(a, p, nil))
		for i, f := range factors {
			if f.N < 1 || f.P[len(f.P)-1] != 1 || i > 0 && !ffac.Less(factors[i-1].P, f.P) {
				t.Fatalf("%s: %v", said("Factors", p, a), factors)
			}
			if len(a) < 10 {
				continue // small ones are many, and have the same factors again and again
			}
			wantIrreducible(t, f.P, p, true)
			wantSplit(t, f.P, p, nil, [][]int{f.P})
		}
	})
}

// A polynomial is irreducible if it has one factor, once; Split has the same factors as Factors.
func TestCallsAgree(t *testing.T) {
	some(func(a []int, _ []factor, p int) {
		factors := answered[[]ffac.Factor](t)(ffac.Factors(a, p, nil))
		wantIrreducible(t, a, p, len(factors) == 1 && factors[0].N == 1)
		if slices.ContainsFunc(factors, func(f ffac.Factor) bool { return f.N > 1 }) {
			return
		}
		var single [][]int
		for _, f := range factors {
			single = append(single, f.P)
		}
		wantSplit(t, a, p, nil, single)
	})
}

// together are the factors of both, in order, their numbers added.
func together(a, b []ffac.Factor) []ffac.Factor {
	z := slices.Clone(a)
	for _, f := range b {
		at := slices.IndexFunc(z, func(old ffac.Factor) bool { return slices.Equal(old.P, f.P) })
		if at >= 0 {
			z[at].N += f.N
			continue
		}
		at = 0
		for at < len(z) && ffac.Less(z[at].P, f.P) {
			at++
		}
		z = slices.Insert(z, at, f)
	}
	return z
}

func TestFactorsOfProducts(t *testing.T) {
	factors := answered[[]ffac.Factor](t)
	check := func(a, b []int, p int) {
		t.Helper()
		c := answered[[]int](t)(fpoly.Mul(a, b, p))
		wanted := together(factors(ffac.Factors(a, p, nil)), factors(ffac.Factors(b, p, nil)))
		if all := factors(ffac.Factors(c, p, nil)); !same(all, wanted) {
			t.Fatalf("%s: %v, not %v", said("Factors", p, c), all, wanted)
		}
	}
	m := newMaker(5)
	for _, p := range primes() {
		from := grown(p)
		for range 40 {
			a := put(1+m.IntN(p-1), m.factors(from, 8, maxDegree/2, 5, p), p)
			b := put(1+m.IntN(p-1), m.factors(from, 8, maxDegree/2, 5, p), p)
			check(a, b, p)
			check(a, a, p)
			check(a, []int{p - 1}, p)
		}
	}
	for _, p := range []int{2, 3} {
		short := all(5, p)
		for range 1000 {
			a, b := short[1+m.IntN(len(short)-1)], short[1+m.IntN(len(short)-1)]
			check(a, b, p)
		}
	}
}

// x^n - 1 has, for each d that divides n, as many factors of p's order by d as that goes into the numbers below d without
// a common divisor.
func TestCircles(t *testing.T) {
	for _, p := range []int{2, 3, 5, 7, 11, 13, 251, 65519, 65521} {
		for n := 1; n <= maxDegree; n++ {
			if n%p == 0 {
				continue
			}
			wanted := make([]int, n)
			for d := 1; d <= n; d++ {
				if n%d == 0 {
					wanted[order(p, d)-1] += units(d)
				}
			}
			a := make([]int, n+1)
			a[0], a[n] = -1, 1
			for i, product := range answered[[][]int](t)(ffac.Degrees(a, p)) {
				if len(product)-1 != wanted[i] {
					t.Fatalf("%s: of degree %d: %v", said("Degrees", p, a), i+1, product)
				}
			}
			for _, f := range answered[[][]int](t)(ffac.Split(a, p, nil)) {
				wanted[len(f)-2] -= len(f) - 1
			}
			if slices.ContainsFunc(wanted, func(left int) bool { return left != 0 }) {
				t.Fatalf("%s: left: %v", said("Split", p, a), wanted)
			}
		}
	}
}

// units is how many numbers from 1 to n have no common divisor with it.
func units(n int) int {
	count := 0
	for a := 1; a <= n; a++ {
		if gcdOf(a, n) == 1 {
			count++
		}
	}
	return count
}

func gcdOf(a, b int) int {
	for b > 0 {
		a, b = b, a%b
	}
	return a
}
