package fpoly_test

import (
	"slices"
	"testing"

	"cleaver/api"
	"cleaver/fpoly"
)

// P6.4: what follows, told by the calls alone.

// calls are those that answer one polynomial by p, which may not answer an error.
type calls struct {
	t *testing.T
	p int
}

func (c calls) norm(a []int) []int   { return one(c.t, c.p)(fpoly.Norm(a, c.p)) }
func (c calls) add(a, b []int) []int { return one(c.t, c.p)(fpoly.Add(a, b, c.p)) }
func (c calls) sub(a, b []int) []int { return one(c.t, c.p)(fpoly.Sub(a, b, c.p)) }
func (c calls) mul(a, b []int) []int { return one(c.t, c.p)(fpoly.Mul(a, b, c.p)) }
func (c calls) gcd(a, b []int) []int { return one(c.t, c.p)(fpoly.Gcd(a, b, c.p)) }
func (c calls) deriv(a []int) []int  { return one(c.t, c.p)(fpoly.Deriv(a, c.p)) }
func (c calls) monic(a []int) []int  { return one(c.t, c.p)(fpoly.Monic(a, c.p)) }

func (c calls) pow(a []int, n api.Int, m []int) []int {
	return one(c.t, c.p)(fpoly.PowMod(a, n, m, c.p))
}

func (c calls) rest(a, m []int) []int {
	_, rest, e := fpoly.Div(a, m, c.p)
	return one(c.t, c.p)(rest, e)
}

// constant is the polynomial of a's value at x.
func (c calls) constant(a []int, x int) []int {
	is, e := fpoly.Eval(a, x, c.p)
	if e != api.OK || is < 0 || is >= c.p {
		c.t.Fatalf("%s: %v, %v", said("Eval", c.p, a, x), is, e)
	}
	return c.norm([]int{is})
}

// law is of two polynomials that are the same.
type law struct {
	what        string
	left, right []int
}

func hold(t *testing.T, laws []law, p int, handed ...any) {
	t.Helper()
	for _, l := range laws {
		if !slices.Equal(l.left, l.right) {
			t.Fatalf("%s: %s: %v, %v", l.what, said("", p, handed...), l.left, l.right)
		}
	}
}

func TestRing(t *testing.T) {
	m := newMaker(4)
	pairs(func(a, b []int, p int) {
		c := m.some(9, p)
		f := calls{t, p}
		sum, product := f.add(a, b), f.mul(a, b)
		hold(t, []law{
			{"a + b, b + a", sum, f.add(b, a)},
			{"a b, b a", product, f.mul(b, a)},
			{"(a + b) + c, a + (b + c)", f.add(sum, c), f.add(a, f.add(b, c))},
			{"(a b) c, a (b c)", f.mul(product, c), f.mul(a, f.mul(b, c))},
			{"c (a + b), c a + c b", f.mul(c, sum), f.add(f.mul(c, a), f.mul(c, b))},
			{"a + 0, a", f.add(a, nil), f.norm(a)},
			{"a 1, a", f.mul(a, []int{1}), f.norm(a)},
			{"a + (0 - a), 0", f.add(a, f.sub(nil, a)), f.norm(nil)},
			{"(a + b) - b, a", f.sub(sum, b), f.norm(a)},
		}, p, a, b, c)
	})
}

// A product of two that are not nought is not, either: its degree is the sum of both.
func TestNoDivisorsOfNought(t *testing.T) {
	pairs(func(a, b []int, p int) {
		f := calls{t, p}
		x, y, product := f.norm(a), f.norm(b), f.mul(a, b)
		wanted := len(x) + len(y) - 1
		if len(x) == 0 || len(y) == 0 {
			wanted = 0
		}
		if len(product) != wanted {
			t.Fatalf("%s: %v", said("Mul", p, a, b), product)
		}
	})
}

// What divides both divides the Gcd: so what both are multiplied by comes out of it, made monic.
func TestGcdDivides(t *testing.T) {
	m := newMaker(5)
	pairs(func(a, b []int, p int) {
		f := calls{t, p}
		g, shared := f.gcd(a, b), m.unlike(5, p)
		if len(g) > 0 && len(f.rest(a, g))+len(f.rest(b, g)) > 0 {
			t.Fatalf("%s: %v", said("Gcd", p, a, b), g)
		}
		both := f.gcd(f.mul(a, shared), f.mul(b, shared))
		hold(t, []law{
			{"a gcd b, b gcd a", g, f.gcd(b, a)},
			{"c a gcd c b, c (a gcd b)", both, f.mul(f.monic(shared), g)},
			{"a gcd a b, a", f.gcd(a, f.mul(a, b)), f.monic(a)},
		}, p, a, b, shared)
		if len(both) > 0 && len(f.rest(both, shared)) > 0 {
			t.Fatalf("%s: %v, by %v", said("Gcd", p, a, b), both, shared)
		}
	})
}

func TestDerivOfProducts(t *testing.T) {
	pairs(func(a, b []int, p int) {
		f := calls{t, p}
		hold(t, []law{
			{"(a b)', a' b + a b'", f.deriv(f.mul(a, b)), f.add(f.mul(f.deriv(a), b), f.mul(a, f.deriv(b)))},
			{"(a + b)', a' + b'", f.deriv(f.add(a, b)), f.add(f.deriv(a), f.deriv(b))},
		}, p, a, b)
	})
}

func TestValues(t *testing.T) {
	m := newMaker(6)
	pairs(func(a, b []int, p int) {
		f := calls{t, p}
		x := m.coefficient(p)
		at := func(a []int) []int { return f.constant(a, x) }
		hold(t, []law{
			{"(a + b)(x), a(x) + b(x)", at(f.add(a, b)), f.add(at(a), at(b))},
			{"(a - b)(x), a(x) - b(x)", at(f.sub(a, b)), f.sub(at(a), at(b))},
			{"(a b)(x), a(x) b(x)", at(f.mul(a, b)), f.mul(at(a), at(b))},
			{"the rest by X - x, a(x)", f.rest(a, []int{-(x % p), 1}), at(a)},
		}, p, a, b, x)
	})
}

// Exponents of a product of powers are added, and the p-th power of a sum is the sum of p-th powers.
func TestPowers(t *testing.T) {
	m := newMaker(7)
	for _, p := range primes() {
		f := calls{t, p}
		for range 30 {
			a, b, by := m.some(6, p), m.some(6, p), m.unlike(6, p)
			n, k := m.IntN(1<<40), m.IntN(1<<40)
			rest := func(a []int) []int { return f.rest(a, by) }
			hold(t, []law{
				{"a^n a^k, a^(n + k)", rest(f.mul(f.pow(a, number(n), by), f.pow(a, number(k), by))), f.pow(a, number(n+k), by)},
				{"(a b)^n, a^n b^n", f.pow(f.mul(a, b), number(n), by), rest(f.mul(f.pow(a, number(n), by), f.pow(b, number(n), by)))},
				{"(a + b)^p, a^p + b^p", f.pow(f.add(a, b), number(p), by), f.add(f.pow(a, number(p), by), f.pow(b, number(p), by))},
			}, p, a, b, by, n, k)
		}
	}
}
