package mpoly_test

import (
	"testing"

	"cleaver/api"
	"cleaver/mpoly"
	"cleaver/zint"
)

// P17.5: what follows, told by the calls alone.

// ring has the calls of n variables, each with a test's end in the place of an error.
type ring struct {
	*testing.T
	n int
}

func (r ring) of(a []api.Term, e api.Errno) []api.Term {
	r.Helper()
	if e != api.OK {
		r.Fatal(e)
	}
	return a
}

func (r ring) norm(a []api.Term) []api.Term   { return r.of(mpoly.Norm(r.n, a)) }
func (r ring) add(a, b []api.Term) []api.Term { return r.of(mpoly.Add(r.n, a, b)) }
func (r ring) sub(a, b []api.Term) []api.Term { return r.of(mpoly.Sub(r.n, a, b)) }
func (r ring) mul(a, b []api.Term) []api.Term { return r.of(mpoly.Mul(r.n, a, b)) }
func (r ring) div(a, b []api.Term) []api.Term { return r.of(mpoly.Div(r.n, a, b)) }
func (r ring) number(c api.Int) []api.Term    { return r.of(mpoly.Const(r.n, c)) }
func (r ring) deriv(a []api.Term, i int) []api.Term {
	return r.of(mpoly.Deriv(r.n, a, i))
}

func (r ring) eval(a []api.Term, i int, x api.Int) []api.Term {
	return r.of(mpoly.Eval(r.n, a, i, x))
}

type law struct {
	what        string
	left, right []api.Term
}

func (r ring) hold(laws []law, handed ...any) {
	r.Helper()
	for _, l := range laws {
		if !same(l.left, l.right) {
			r.Fatalf("%s: %s: %s, %s", l.what, said("", handed...), text(l.left), text(l.right))
		}
	}
}

func TestRing(t *testing.T) {
	m := newMaker(10)
	pairs(func(n int, a, b []api.Term) {
		r, c := ring{t, n}, m.some(n, max(1, 6-len(a)/8), 3) // a b c has no more terms than may be
		sum, product, one := r.add(a, b), r.mul(a, b), r.number(zint.Of(1))
		r.hold([]law{
			{"a + b, b + a", sum, r.add(b, a)},
			{"a b, b a", product, r.mul(b, a)},
			{"(a + b) + c, a + (b + c)", r.add(sum, c), r.add(a, r.add(b, c))},
			{"(a b) c, a (b c)", r.mul(product, c), r.mul(a, r.mul(b, c))},
			{"c (a + b), c a + c b", r.mul(c, sum), r.add(r.mul(c, a), r.mul(c, b))},
			{"a + 0, a", r.add(a, nil), r.norm(a)},
			{"a 1, a", r.mul(a, one), r.norm(a)},
			{"a - a, 0", r.sub(a, a), nil},
			{"(a + b) - b, a", r.sub(sum, b), r.norm(a)},
			{"-1 a, 0 - a", r.mul(a, r.number(zint.Of(-1))), r.sub(nil, a)},
			{"a + a, 2 a", r.add(a, a), r.mul(r.number(zint.Of(2)), a)},
		}, n, a, b, c)
	})
}

// A product of two that are not nought is not, either; its first term is the product of the first ones, and each of both comes out of it.
func TestNoDivisorsOfNought(t *testing.T) {
	pairs(func(n int, a, b []api.Term) {
		r := ring{t, n}
		x, y, product := r.norm(a), r.norm(b), r.mul(a, b)
		if len(x) == 0 || len(y) == 0 {
			r.hold([]law{{"a 0, 0", product, nil}}, n, a, b)
			return
		}
		r.hold([]law{
			{"the first terms", product[:1], r.mul(x[:1], y[:1])},
			{"a b by b, a", r.div(product, b), x},
			{"a b by a, b", r.div(product, a), y},
		}, n, a, b)
		for i := range n {
			d, _ := mpoly.Degree(n, a, i)
			e, _ := mpoly.Degree(n, b, i)
			if all, _ := mpoly.Degree(n, product, i); all != d+e {
				t.Fatalf("%s: %d, not %d and %d", said("Degree of a b", n, a, b, i), all, d, e)
			}
		}
	})
}

func TestGauss(t *testing.T) {
	pairs(func(n int, a, b []api.Term) {
		r := ring{t, n}
		c, p, _ := mpoly.Prim(n, a)
		d, q, _ := mpoly.Prim(n, b)
		both, prim, e := mpoly.Prim(n, r.mul(a, b))
		r.hold([]law{
			{"Prim of a b", r.of(prim, e), r.mul(p, q)},
			{"its number", r.number(both), r.number(zint.Mul(c, d))},
			{"c Prim(a), a", r.mul(r.number(c), p), r.norm(a)},
		}, n, a, b)
		if again, same, _ := mpoly.Prim(n, p); len(p) > 0 && (!sameInt(again, zint.Of(1)) || zint.Sign(p[0].C) < 0) {
			t.Fatalf("%s: %v, %s", said("Prim of Prim", n, a), again, text(same))
		}
	})
}

func TestDerivAndEvalGoThrough(t *testing.T) {
	m := newMaker(11)
	pairs(func(n int, a, b []api.Term) {
		if n == 0 {
			return
		}
		r, i, j, x, y := ring{t, n}, m.IntN(n), m.IntN(n), small(m.IntN(9)-4), small(m.IntN(9)-4)
		r.hold([]law{
			{"(a b)', a' b + a b'", r.deriv(r.mul(a, b), i), r.add(r.mul(r.deriv(a, i), b), r.mul(a, r.deriv(b, i)))},
			{"(a + b)', a' + b'", r.deriv(r.add(a, b), i), r.add(r.deriv(a, i), r.deriv(b, i))},
			{"a' by one and another", r.deriv(r.deriv(a, i), j), r.deriv(r.deriv(a, j), i)},
			{"(a b)(x), a(x) b(x)", r.eval(r.mul(a, b), i, x), r.mul(r.eval(a, i, x), r.eval(b, i, x))},
			{"(a - b)(x), a(x) - b(x)", r.eval(r.sub(a, b), i, x), r.sub(r.eval(a, i, x), r.eval(b, i, x))},
			{"a(x)(y)", r.eval(r.eval(a, i, x), i, y), r.eval(a, i, x)},
		}, n, a, b, i, j, x, y)
		if i != j {
			r.hold([]law{{"a(x, y)", r.eval(r.eval(a, i, x), j, y), r.eval(r.eval(a, j, y), i, x)}}, n, a, i, j, x, y)
		}
		v, _ := mpoly.Var(n, i)
		r.div(r.sub(a, r.eval(a, i, x)), r.sub(v, r.number(x)))
	})
}

// Of two that are not the same just one is ahead, of a polynomial and itself none; what is ahead of one ahead of another is ahead of that.
func TestOrder(t *testing.T) {
	list := append(all(2, 1, 1), edges(2)...)
	for _, a := range list {
		for _, b := range list {
			x, y := ring{t, 2}.norm(a), ring{t, 2}.norm(b)
			ahead, behind := mpoly.Less(x, y), mpoly.Less(y, x)
			if ahead && behind || same(x, y) == (ahead || behind) {
				t.Fatalf("%s: %v, %v", said("Less", x, y), ahead, behind)
			}
			for k := 0; ahead && k < len(list); k += 3 {
				if mpoly.Less(b, list[k]) && mpoly.Less(a, b) && !mpoly.Less(a, list[k]) {
					t.Fatalf("%s, but not ahead of %s", said("Less", a, b), text(list[k]))
				}
			}
		}
	}
}
