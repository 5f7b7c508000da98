package zsqf_test

import (
	"math/big"
	"testing"

	"cleaver/api"
	"cleaver/zgcd"
	"cleaver/zint"
	"cleaver/zpoly"
	"cleaver/zsqf"
)

// P12.4: what follows, told by the calls alone.

// answered is what a call answers that may not answer an error.
func answered[T any](t *testing.T) func(a T, e api.Errno) T {
	return func(a T, e api.Errno) T {
		t.Helper()
		if e != api.OK {
			t.Fatal(a, e)
		}
		return a
	}
}

func TestProductOfParts(t *testing.T) {
	partsOf := answered[[]zsqf.Part](t)
	some(func(a []api.Int, _ []factor) {
		product := []api.Int{zpoly.Content(a)}
		for _, part := range partsOf(zsqf.Parts(a)) {
			for range part.N {
				product = zpoly.Mul(product, part.P)
			}
		}
		if !same(product, zpoly.Norm(a)) {
			t.Fatalf("%s: its product is %s", said("Parts", a), text(product))
		}
	})
}

func TestPartsForm(t *testing.T) {
	is, one := answered[bool](t), zpoly.Of(1)
	some(func(a []api.Int, _ []factor) {
		parts := answered[[]zsqf.Part](t)(zsqf.Parts(a))
		number := 0
		for i, part := range parts {
			if part.N <= number || len(part.P) < 2 || !sameInt(zpoly.Content(part.P), zint.Of(1)) || !is(zsqf.Is(part.P)) {
				t.Fatalf("%s: %s", said("Parts", a), partsText(parts))
			}
			number = part.N
			for _, other := range parts[:i] {
				if common := zgcd.Gcd(part.P, other.P); !same(common, one) {
					t.Fatalf("%s: %s: %s", said("Parts", a), partsText(parts), text(common))
				}
			}
		}
	})
}

func TestIsByDerivative(t *testing.T) {
	some(func(a []api.Int, _ []factor) {
		wantIs(t, a, len(zgcd.Gcd(a, zpoly.Deriv(a))) == 1)
	})
}

// A polynomial is squarefree, if its radical is of its own degree; a radical is its own one, and the product of all parts.
func TestRadicals(t *testing.T) {
	some(func(a []api.Int, _ []factor) {
		radical := answered[[]api.Int](t)(zsqf.Radical(a))
		wantIs(t, a, len(radical) == len(norm(a)))
		wantIs(t, radical, true)
		wantRadical(t, radical, radical)
		product := zpoly.Of(1)
		for _, part := range answered[[]zsqf.Part](t)(zsqf.Parts(a)) {
			product = zpoly.Mul(product, part.P)
		}
		if !same(product, radical) {
			t.Fatalf("%s: %s, %s", said("Radical", a), text(radical), text(product))
		}
	})
}

// Numbers say nothing: neither does a power of one turn a polynomial that is squarefree.
func TestNumbersSayNothing(t *testing.T) {
	m := newMaker(3)
	some(func(a []api.Int, factors []factor) {
		c := m.number()
		b := zpoly.Scale(a, zint.Mul(c, zint.Mul(c, zint.Of(4))))
		wantIs(t, b, isFree(factors))
		wantRadical(t, b, answered[[]api.Int](t)(zsqf.Radical(a)))
		wantParts(t, b, answered[[]zsqf.Part](t)(zsqf.Parts(a)))
	})
}

// A power has the same parts, each that many times as often; so has a polynomial that is shifted, shifted ones.
func TestPartsOfPowers(t *testing.T) {
	m := newMaker(4)
	partsOf := answered[[]zsqf.Part](t)
	for range 20 {
		a := put(small(m.IntN(9)+1), m.factors(3, 8))
		wanted, product := partsOf(zsqf.Parts(a)), zpoly.Of(1)
		for n := 1; n <= 6; n++ {
			product = zpoly.Mul(product, a)
			var times []zsqf.Part
			for _, part := range wanted {
				times = append(times, zsqf.Part{P: part.P, N: part.N * n})
			}
			wantParts(t, product, times)
		}
		s := zint.Of(m.IntN(9) - 4)
		var shifted []zsqf.Part
		for _, part := range wanted {
			shifted = append(shifted, zsqf.Part{P: zpoly.Shift(part.P, s), N: part.N})
		}
		wantParts(t, zpoly.Shift(a, s), shifted)
	}
}

// divisors calls f with all products of some factors, each as often as it may, and a number.
func divisors(by api.Int, factors []factor, f func(d []api.Int)) {
	if len(factors) == 0 {
		f([]api.Int{by})
		return
	}
	first, others := factors[0], factors[1:]
	divisors(by, others, func(d []api.Int) {
		f(d)
		for range first.n {
			d = times(d, first.f)
			f(d)
		}
	})
}

// No coefficient of one that divides is greater than the bound.
func TestBoundHolds(t *testing.T) {
	holds := func(a []api.Int, factors []factor) {
		bound := value(answered[api.Int](t)(zsqf.Bound(a)))
		divisors(of(content(a)), factors, func(d []api.Int) {
			for _, v := range values(d) {
				if new(big.Int).Abs(v).Cmp(bound) > 0 {
					t.Fatalf("%s: %v, below those of %s", said("Bound", a), bound, text(d))
				}
			}
		})
	}
	low := lowOnes()
	for _, a := range all(5, 2) {
		if whole := trim(a); len(whole) > 0 {
			holds(poly(a...), byTrial(whole, low))
		}
	}
	m := newMaker(5)
	for range 60 {
		factors := m.factors(1+m.IntN(4), 1+m.IntN(12))
		holds(put(m.number(), factors), factors)
	}
	lines := []factor{{poly(-1, 1), 32}, {poly(1, 1), 32}} // the product is of small numbers beside the power of the one alone
	holds(put(small(1), lines), lines)
}
