package zfac_test

import (
	"slices"
	"testing"

	"cleaver/api"
	"cleaver/prime"
	"cleaver/short"
	"cleaver/zfac"
	"cleaver/zint"
	"cleaver/zpoly"
	"cleaver/zsqf"
)

// P16.3: what follows, told by the calls alone.

// factored is what Factors answers of what it may not refuse.
func factored(t *testing.T, a []api.Int, draws []int) (api.Int, []api.Factor) {
	t.Helper()
	c, factors, e := zfac.Factors(a, draws)
	if e != api.OK {
		t.Fatal(text(a), e)
	}
	return c, factors
}

// some calls f with polynomials whose factors nobody tells, many of them products, and with products of known ones.
func some(f func(a []api.Int)) {
	m := newMaker(7)
	list := func(n int) []api.Int {
		a := make([]api.Int, n)
		for i := range a {
			a[i] = small(m.IntN(19) - 9)
		}
		return a
	}
	for range 150 {
		a := list(1 + m.IntN(8))
		for range m.IntN(3) {
			a = zpoly.Mul(a, list(2+m.IntN(3)))
		}
		if m.IntN(3) == 0 {
			a = zpoly.Mul(a, a[:1+len(a)/2])
		}
		if len(zpoly.Norm(a)) > 0 {
			f(a)
		}
	}
	for i := range 30 {
		f(m.unplain(m.product(1+m.IntN(4), 1+i%3, 30).a))
	}
}

// A polynomial is its content times all factors, each so often.
func TestProductOfFactors(t *testing.T) {
	some(func(a []api.Int) {
		c, factors := factored(t, a, nil)
		product := []api.Int{c}
		for _, f := range factors {
			for range f.N {
				product = zpoly.Mul(product, f.P)
			}
		}
		if !same(product, zpoly.Norm(a)) || !sameInt(c, zpoly.Content(a)) {
			t.Fatalf("%s: the product is %s", text(a), text(product))
		}
	})
}

// Each factor is primitive, of degree 1 or more, and has but itself; and they are in order, so that none is told twice.
func TestFactorsAreIrreducible(t *testing.T) {
	some(func(a []api.Int) {
		_, factors := factored(t, a, nil)
		for i, f := range factors {
			wantIrreducible(t, f.P, true)
			wantSplit(t, f.P, []int{i}, [][]api.Int{f.P})
			wantFactors(t, f.P, []int{7, i}, small(1), []api.Factor{{P: f.P, N: 1}})
			if !same(zpoly.Prim(f.P), f.P) || len(f.P) < 2 || f.N < 1 || i > 0 && !zpoly.Less(factors[i-1].P, f.P) {
				t.Fatalf("%s: %s", text(a), factorTexts(factors))
			}
		}
	})
}

// All calls tell the same: Split just of squarefree ones, what Factors tells; Irreducible of those that have one factor, once.
func TestCallsAgree(t *testing.T) {
	some(func(a []api.Int) {
		_, factors := factored(t, a, nil)
		free, _ := zsqf.Is(a)
		isFree := !slices.ContainsFunc(factors, func(f api.Factor) bool { return f.N > 1 })
		if free != isFree {
			t.Fatalf("%s: %s", text(a), factorTexts(factors))
		}
		if free {
			wantSplit(t, a, nil, polys(factors))
		} else {
			wantNoSplit(t, a, nil, api.ErrArg)
		}
		wantIrreducible(t, a, len(factors) == 1 && free)
		radical := zpoly.Of(1)
		for _, f := range factors {
			radical = zpoly.Mul(radical, f.P)
		}
		if z, _ := zsqf.Radical(a); !same(z, radical) {
			t.Fatalf("%s: %s", text(a), text(radical))
		}
	})
}

// Draws turn nothing.
func TestDraws(t *testing.T) {
	m := newMaker(8)
	for i := range 12 {
		c := m.product(1+m.IntN(5), 1+i%2, 30)
		for _, draws := range m.someDraws() {
			c.want(t, draws)
		}
	}
	for _, c := range []product{free(1, climber(2, 3, 5)), free(1, circle(1), circle(2), circle(3), circle(4), circle(6), circle(12)), put(small(3), api.Factor{P: circle(8), N: 2}, api.Factor{P: poly(0, 1), N: 5})} {
		for _, draws := range m.someDraws() {
			c.want(t, draws)
		}
		for draw := range 200 {
			wantFactors(t, c.a, []int{draw * 331, draw, -draw}, c.by, c.factors)
		}
	}
}

// joined are the factors of both lists, in order, their numbers added.
func joined(a, b []api.Factor) []api.Factor {
	z := slices.Clone(a)
	for _, f := range b {
		if at := slices.IndexFunc(z, func(g api.Factor) bool { return same(f.P, g.P) }); at >= 0 {
			z[at].N += f.N
		} else {
			z = append(z, f)
		}
	}
	slices.SortFunc(z, func(x, y api.Factor) int { return order(x.P, y.P) })
	return z
}

// The factors of a product are those of both, their numbers added; its content is the product of contents.
func TestFactorsOfProducts(t *testing.T) {
	var before []api.Int
	some(func(a []api.Int) {
		if len(before) > 0 && len(a)+len(before) < 40 {
			c, x := factored(t, a, nil)
			d, y := factored(t, before, nil)
			wantFactors(t, zpoly.Mul(a, before), nil, zint.Mul(c, d), joined(x, y))
			wantFactors(t, zpoly.Mul(a, a), nil, zint.Mul(c, c), joined(x, x))
		}
		before = a
	})
}

// What a polynomial is at x + s has the factors at x + s; the one with its coefficients the other way round has the factors
// that way, but for x; and so has the one at -x.
func TestFactorsElsewhere(t *testing.T) {
	m := newMaker(9)
	for i := range 40 {
		c := m.product(1+m.IntN(4), 1+i%3, 16)
		moved := func(change func(a []api.Int) []api.Int) {
			var factors []api.Factor
			for _, f := range c.factors {
				if p := zpoly.Prim(change(f.P)); len(p) > 1 {
					factors = append(factors, api.Factor{P: p, N: f.N})
				}
			}
			whole := change(c.a)
			wantFactors(t, whole, nil, zpoly.Content(whole), put(c.by, factors...).factors)
		}
		moved(func(a []api.Int) []api.Int { return zpoly.Shift(a, small(i-20)) })
		moved(func(a []api.Int) []api.Int {
			z := slices.Clone(a)
			slices.Reverse(z)
			return zpoly.Norm(z)
		})
		moved(func(a []api.Int) []api.Int {
			z := slices.Clone(a)
			for place := 1; place < len(z); place += 2 {
				z[place] = zint.Neg(z[place])
			}
			return z
		})
	}
}

// By any prime that may part it, be it a small one or a great one, a polynomial has the same factors, whether choices alone
// tell them, or short as soon as there is one.
func TestByAnyPrime(t *testing.T) {
	const all = 1 << 40
	m := newMaker(10)
	for i := range 40 {
		c := m.product(1+m.IntN(4), 1, 14)
		a := zpoly.Prim(c.a)
		if i == 0 {
			a = binomial(12, -1)
		}
		wanted, _ := zfac.Split(a, nil)
		p, tried := 0, 0
		for tried < 8 && p < api.MaxPrime {
			p, _ = prime.Next(p + i*tried*tried*tried)
			if good, _ := short.Good(a, p); !good {
				continue
			}
			tried++
			for _, most := range []int{0, 3, all} {
				z := zfac.By(a, p, most, []int{i, tried})
				slices.SortFunc(z, order)
				if !slices.EqualFunc(z, wanted, same) {
					t.Fatalf("%s by %d, %d: %s, not %s", text(a), p, most, texts(z), texts(wanted))
				}
			}
		}
	}
}
