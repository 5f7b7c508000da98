package zpoly_test

import (
	"slices"
	"testing"

	"cleaver/api"
	"cleaver/zint"
	"cleaver/zpoly"
)

// P10.5: what follows, told by the calls alone.

type law struct {
	what        string
	left, right []api.Int
}

func hold(t *testing.T, laws []law, handed ...any) {
	t.Helper()
	for _, l := range laws {
		if !same(l.left, l.right) {
			t.Fatalf("%s: %s: %s, %s", l.what, said("", handed...), text(l.left), text(l.right))
		}
	}
}

func TestRing(t *testing.T) {
	m := newMaker(7)
	pairs(func(a, b []api.Int) {
		c := m.some(9)
		sum, product, none := zpoly.Add(a, b), zpoly.Mul(a, b), zpoly.Of()
		hold(t, []law{
			{"a + b, b + a", sum, zpoly.Add(b, a)},
			{"a b, b a", product, zpoly.Mul(b, a)},
			{"(a + b) + c, a + (b + c)", zpoly.Add(sum, c), zpoly.Add(a, zpoly.Add(b, c))},
			{"(a b) c, a (b c)", zpoly.Mul(product, c), zpoly.Mul(a, zpoly.Mul(b, c))},
			{"c (a + b), c a + c b", zpoly.Mul(c, sum), zpoly.Add(zpoly.Mul(c, a), zpoly.Mul(c, b))},
			{"a + 0, a", zpoly.Add(a, nil), zpoly.Norm(a)},
			{"a 1, a", zpoly.Mul(a, zpoly.Of(1)), zpoly.Norm(a)},
			{"a + (0 - a), 0", zpoly.Add(a, zpoly.Sub(nil, a)), none},
			{"a - a, 0", zpoly.Sub(a, a), none},
			{"(a + b) - b, a", zpoly.Sub(sum, b), zpoly.Norm(a)},
			{"-1 a, 0 - a", zpoly.Scale(a, zint.Of(-1)), zpoly.Sub(nil, a)},
		}, a, b, c)
	})
}

// A product of two that are not nought is not, either: its degree is the sum of both, and each of both comes out of it.
func TestNoDivisorsOfNought(t *testing.T) {
	pairs(func(a, b []api.Int) {
		x, y, product := zpoly.Norm(a), zpoly.Norm(b), zpoly.Mul(a, b)
		if len(x) == 0 || len(y) == 0 {
			want(t, said("Mul", a, b), product, nil)
			return
		}
		if len(product) != len(x)+len(y)-1 {
			t.Fatalf("%s: %s", said("Mul", a, b), text(product))
		}
		if q, e := zpoly.Div(product, b); e != api.OK || !same(q, x) {
			t.Fatalf("%s: %s, %v", said("a b by b", a, b), text(q), e)
		}
	})
}

func TestGauss(t *testing.T) {
	pairs(func(a, b []api.Int) {
		product := zpoly.Mul(a, b)
		if c := zint.Mul(zpoly.Content(a), zpoly.Content(b)); !sameInt(zpoly.Content(product), c) {
			t.Fatalf("%s: %v, not %v", said("Content of a b", a, b), zpoly.Content(product), c)
		}
		prim := zpoly.Prim(a)
		hold(t, []law{
			{"Prim of a b", zpoly.Prim(product), zpoly.Mul(prim, zpoly.Prim(b))},
			{"Content(a) Prim(a), a", zpoly.Scale(prim, zpoly.Content(a)), zpoly.Norm(a)},
			{"Prim of Prim", zpoly.Prim(prim), prim},
		}, a, b)
		if one := zpoly.Content(prim); len(prim) > 0 && !sameInt(one, zint.Of(1)) {
			t.Fatalf("%s: %v", said("Content of Prim", a), one)
		}
	})
}

// Rests of sums and products are those of sums and products of rests.
func TestModGoesThrough(t *testing.T) {
	m := newMaker(8)
	pairs(func(a, b []api.Int) {
		p := moduli()[m.IntN(len(moduli()))]
		by := func(a []api.Int) []int {
			l, e := zpoly.Mod(a, p)
			if e != api.OK {
				t.Fatalf("%s: %v", said("Mod", a, p), e)
			}
			return l
		}
		x, y := zpoly.Lift(by(a)), zpoly.Lift(by(b))
		for _, c := range []struct{ whole, rests []api.Int }{
			{zpoly.Add(a, b), zpoly.Add(x, y)}, {zpoly.Sub(a, b), zpoly.Sub(x, y)}, {zpoly.Mul(a, b), zpoly.Mul(x, y)}, {zpoly.Deriv(a), zpoly.Deriv(x)},
		} {
			if !slices.Equal(by(c.whole), by(c.rests)) {
				t.Fatalf("%s: %v, %v", said("by", p, a, b), by(c.whole), by(c.rests))
			}
		}
	})
}

func TestDerivOfProducts(t *testing.T) {
	pairs(func(a, b []api.Int) {
		hold(t, []law{
			{"(a b)', a' b + a b'", zpoly.Deriv(zpoly.Mul(a, b)), zpoly.Add(zpoly.Mul(zpoly.Deriv(a), b), zpoly.Mul(a, zpoly.Deriv(b)))},
			{"(a + b)', a' + b'", zpoly.Deriv(zpoly.Add(a, b)), zpoly.Add(zpoly.Deriv(a), zpoly.Deriv(b))},
		}, a, b)
	})
}

// What is at x + s after a shift is at x; shifts go through sums, products and derivatives, and back.
func TestValuesAndShifts(t *testing.T) {
	m := newMaker(9)
	for range 400 {
		a, b, s, x := m.some(8), m.some(8), m.number(), m.number()
		at := func(a []api.Int) []api.Int { return zpoly.Norm([]api.Int{zpoly.Eval(a, x)}) }
		on := func(a []api.Int) []api.Int { return zpoly.Shift(a, s) }
		there := []api.Int{zpoly.Eval(a, zint.Add(x, s))}
		hold(t, []law{
			{"(a + b)(x), a(x) + b(x)", at(zpoly.Add(a, b)), zpoly.Add(at(a), at(b))},
			{"(a b)(x), a(x) b(x)", at(zpoly.Mul(a, b)), zpoly.Mul(at(a), at(b))},
			{"a shifted, at x; a(x + s)", at(on(a)), zpoly.Norm(there)},
			{"a + b, shifted", on(zpoly.Add(a, b)), zpoly.Add(on(a), on(b))},
			{"a b, shifted", on(zpoly.Mul(a, b)), zpoly.Mul(on(a), on(b))},
			{"a', shifted", on(zpoly.Deriv(a)), zpoly.Deriv(on(a))},
			{"there and back", zpoly.Shift(on(a), zint.Neg(s)), zpoly.Norm(a)},
			{"by nought", zpoly.Shift(a, api.Int{Neg: true}), zpoly.Norm(a)},
		}, a, b, s, x)
		if _, e := zpoly.Div(zpoly.Sub(a, at(a)), []api.Int{zint.Neg(x), zint.Of(1)}); e != api.OK {
			t.Fatalf("%s: %v", said("a - a(x) by X - x", a, x), e)
		}
	}
}

// Of two that are not the same just one is ahead, of a polynomial and itself none; what is ahead of one ahead of another is ahead of that.
func TestOrder(t *testing.T) {
	list := append(all(3, 1), edges()...)
	for _, a := range list {
		for _, b := range list {
			ahead, behind, alike := zpoly.Less(a, b), zpoly.Less(b, a), same(zpoly.Norm(a), zpoly.Norm(b))
			if ahead && behind || alike == (ahead || behind) {
				t.Fatalf("%s: %v, %v", said("Less", a, b), ahead, behind)
			}
			for _, c := range list {
				if ahead && zpoly.Less(b, c) && !zpoly.Less(a, c) {
					t.Fatalf("%s, but not ahead of %s", said("Less", a, b), text(c))
				}
			}
		}
	}
}
