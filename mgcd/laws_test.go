package mgcd_test

import (
	"testing"

	"cleaver/api"
	"cleaver/mgcd"
	"cleaver/mpoly"
	"cleaver/zint"
)

// P18.3: what follows, told by the calls alone.

// laws has the calls of n variables, each with a test's end in the place of an error.
type laws struct {
	*testing.T
	n int
}

func (l laws) of(a []api.Term, e api.Errno) []api.Term {
	l.Helper()
	if e != api.OK {
		l.Fatal(e)
	}
	return a
}

func (l laws) gcd(a, b []api.Term) []api.Term { return l.of(mgcd.Gcd(l.n, a, b)) }
func (l laws) mul(a, b []api.Term) []api.Term { return l.of(mpoly.Mul(l.n, a, b)) }
func (l laws) div(a, b []api.Term) []api.Term { return l.of(mpoly.Div(l.n, a, b)) }
func (l laws) radical(a []api.Term) []api.Term {
	return l.of(mgcd.Radical(l.n, a))
}

// upright is a polynomial, or the opposite, whose first coefficient is above 0.
func (l laws) upright(a []api.Term) []api.Term {
	a = l.of(mpoly.Norm(l.n, a))
	if len(a) > 0 && zint.Sign(a[0].C) < 0 {
		return l.of(mpoly.Sub(l.n, nil, a))
	}
	return a
}

func (l laws) same(what string, a, b []api.Term, handed ...any) {
	l.Helper()
	if !same(a, b) {
		l.Fatalf("%s: %s, %s, of %s", what, text(a), text(b), said("", handed...))
	}
}

func TestWhatIsLeftHasNothingInCommon(t *testing.T) {
	pairs(func(n int, a, b []api.Term) {
		l := laws{t, n}
		g := l.gcd(a, b)
		l.same("Gcd(b, a)", l.gcd(b, a), g, n, a, b)
		if len(g) > 0 {
			l.same("Gcd of what is left", l.gcd(l.div(a, g), l.div(b, g)), unit(n), n, a, b)
			l.same("Gcd(a, Gcd)", l.gcd(a, g), g, n, a, b)
		}
		l.same("Gcd(a, a)", l.gcd(a, a), l.upright(a), n, a)
	})
}

func TestGcdWithOneFactorMore(t *testing.T) {
	m := newMaker(20)
	pairs(func(n int, a, b []api.Term) {
		l, c := laws{t, n}, m.some(n, max(1, 6-len(a)/30), 3)
		l.same("Gcd(a c, b c)", l.gcd(l.mul(a, c), l.mul(b, c)), l.upright(l.mul(l.gcd(a, b), c)), n, a, b, c)
		l.same("Gcd(a, b + a c)", l.gcd(a, l.of(mpoly.Add(n, b, l.mul(a, c)))), l.gcd(a, b), n, a, b, c)
		l.same("Gcd(Gcd(a, b), c)", l.gcd(l.gcd(a, b), c), l.gcd(a, l.gcd(b, c)), n, a, b, c)
		l.same("Gcd(a c, c)", l.gcd(l.mul(a, c), c), l.upright(c), n, a, c)
	})
}

func TestRadicalDividesAndIsSquarefree(t *testing.T) {
	pairs(func(n int, a, b []api.Term) {
		l := laws{t, n}
		for _, c := range [][]api.Term{a, b} {
			if len(l.upright(c)) == 0 {
				continue
			}
			r := l.radical(c)
			l.div(c, r)
			if whole, e := mgcd.Is(n, r); !whole || e != api.OK {
				t.Fatalf("%s: %s is not squarefree, %v", said("Radical", n, c), text(r), e)
			}
			_, prim, _ := mpoly.Prim(n, c)
			if whole, e := mgcd.Is(n, c); whole != same(r, prim) || e != api.OK {
				t.Fatalf("%s: %v, %v, but the radical is %s", said("Is", n, c), whole, e, text(r))
			}
			l.same("Radical of Radical", l.radical(r), r, n, c)
			l.same("Radical of a^2", l.radical(l.mul(c, c)), r, n, c)
		}
	})
}

func TestRadicalOfBoth(t *testing.T) {
	pairs(func(n int, a, b []api.Term) {
		l := laws{t, n}
		if len(l.upright(a)) == 0 || len(l.upright(b)) == 0 {
			return
		}
		r, s, both := l.radical(a), l.radical(b), l.radical(l.mul(a, b))
		l.same("Radical(a b) Gcd(Radical(a), Radical(b))", l.mul(both, l.gcd(r, s)), l.mul(r, s), n, a, b)
		l.same("Radical(a^2 b)", l.radical(l.mul(r, l.mul(a, b))), both, n, a, b)
	})
}

// Of a polynomial that is squarefree, and one of its derivatives by a variable of each of its factors, nothing is in common but numbers.
func TestDerivatives(t *testing.T) {
	pairs(func(n int, a, _ []api.Term) {
		l := laws{t, n}
		if len(l.upright(a)) == 0 {
			return
		}
		left := l.radical(a)
		twice := l.of(mpoly.Norm(n, left))
		for i := range n {
			twice = l.gcd(twice, l.of(mpoly.Deriv(n, left, i)))
		}
		_, prim, _ := mpoly.Prim(n, twice)
		l.same("Gcd of a squarefree one and its derivatives", prim, unit(n), n, a)
	})
}
