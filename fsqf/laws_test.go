package fsqf_test

import (
	"slices"
	"testing"

	"cleaver/api"
	"cleaver/fpoly"
	"cleaver/fsqf"
)

// P8.3: what follows, told by the calls alone.

// answered is what a call answers that may not answer an error.
func answered[T any](t *testing.T) func(a T, e api.Errno) T {
	return func(a T, e api.Errno) T {
		t.Helper()
		if e != api.OK {
			t.Fatal(a, e)
		}
		return a
	}
}

func TestProductOfParts(t *testing.T) {
	list, partsOf := answered[[]int](t), answered[[]fsqf.Part](t)
	some(func(a []int, _ []factor, p int) {
		plain := list(fpoly.Norm(a, p))
		product := plain[len(plain)-1:]
		for _, part := range partsOf(fsqf.Parts(a, p)) {
			for range part.N {
				product = list(fpoly.Mul(product, part.P, p))
			}
		}
		if !slices.Equal(product, plain) {
			t.Fatalf("%s: its product is %v", said("Parts", p, a), product)
		}
	})
}

func TestPartsForm(t *testing.T) {
	list, is := answered[[]int](t), answered[bool](t)
	some(func(a []int, _ []factor, p int) {
		parts := answered[[]fsqf.Part](t)(fsqf.Parts(a, p))
		number := 0
		for i, part := range parts {
			if part.N <= number || len(part.P) < 2 || part.P[len(part.P)-1] != 1 || !is(fsqf.Is(part.P, p)) {
				t.Fatalf("%s: %v", said("Parts", p, a), parts)
			}
			number = part.N
			for _, other := range parts[:i] {
				if common := list(fpoly.Gcd(part.P, other.P, p)); !slices.Equal(common, []int{1}) {
					t.Fatalf("%s: %v: %v", said("Parts", p, a), parts, common)
				}
			}
		}
	})
}

func TestIsByDerivative(t *testing.T) {
	list := answered[[]int](t)
	some(func(a []int, _ []factor, p int) {
		common := list(fpoly.Gcd(a, list(fpoly.Deriv(a, p)), p))
		wantIs(t, a, p, len(common) == 1)
	})
}

// A polynomial is squarefree, if its radical is of its own degree; a radical is its own one, and the product of all parts.
func TestRadicals(t *testing.T) {
	list := answered[[]int](t)
	some(func(a []int, _ []factor, p int) {
		radical := list(fsqf.Radical(a, p))
		wantIs(t, a, p, len(radical) == len(norm(a, p)))
		wantIs(t, radical, p, true)
		wantRadical(t, radical, p, radical)
		product := []int{1}
		for _, part := range answered[[]fsqf.Part](t)(fsqf.Parts(a, p)) {
			product = list(fpoly.Mul(product, part.P, p))
		}
		if !slices.Equal(product, radical) {
			t.Fatalf("%s: %v, %v", said("Radical", p, a), radical, product)
		}
	})
}

// A power has the same parts, each that many times as often.
func TestPartsOfPowers(t *testing.T) {
	list, partsOf := answered[[]int](t), answered[[]fsqf.Part](t)
	m := newMaker(2)
	for _, p := range primes() {
		for range 20 {
			a := put(1+m.IntN(p-1), m.factors(4, 12, p), p)
			wanted, product := partsOf(fsqf.Parts(a, p)), []int{1}
			for n := 1; n <= 9; n++ {
				product = list(fpoly.Mul(product, a, p))
				var times []fsqf.Part
				for _, part := range wanted {
					times = append(times, fsqf.Part{P: part.P, N: part.N * n})
				}
				wantParts(t, product, p, times)
			}
		}
	}
}
