package zgcd_test

import (
	"testing"

	"cleaver/api"
	"cleaver/zgcd"
	"cleaver/zint"
	"cleaver/zpoly"
)

// P11.4, and what follows for common divisors, told by the calls alone.

// law is two polynomials that stand there alike; a resultant is one of a single coefficient.
type law struct {
	what        string
	left, right []api.Int
}

func hold(t *testing.T, laws []law, handed ...[]api.Int) {
	t.Helper()
	for _, l := range laws {
		if !same(zpoly.Norm(l.left), zpoly.Norm(l.right)) {
			t.Fatalf("%s: %s: %s, %s", l.what, said("", handed...), text(l.left), text(l.right))
		}
	}
}

// res is a resultant as a polynomial.
func res(t *testing.T, a, b []api.Int) []api.Int {
	t.Helper()
	return []api.Int{of(resultant(t, a, b))}
}

func degree(a []api.Int) int { return len(zpoly.Norm(a)) - 1 }

// It is 0 just if there is a common divisor of degree 1 or more.
func TestResultantTellsDivisors(t *testing.T) {
	pairs(func(a, b []api.Int) {
		if degree(a) < 0 || degree(b) < 0 {
			return
		}
		if isZero := resultant(t, a, b).Sign() == 0; isZero != (degree(zgcd.Gcd(a, b)) > 0) {
			t.Fatalf("%s: %v, Gcd %s", said("Resultant", a, b), isZero, text(zgcd.Gcd(a, b)))
		}
	})
}

func TestResultantOfProducts(t *testing.T) {
	m := newMaker(9)
	pairs(func(a, b []api.Int) {
		c := m.some(5)
		hold(t, []law{
			{"that of a b, c", res(t, zpoly.Mul(a, b), c), zpoly.Mul(res(t, a, c), res(t, b, c))},
			{"that of c, a b", res(t, c, zpoly.Mul(a, b)), zpoly.Mul(res(t, c, a), res(t, c, b))},
		}, a, b, c)
	})
}

func TestResultantExchanged(t *testing.T) {
	pairs(func(a, b []api.Int) {
		sign := 1
		if degree(a)%2 != 0 && degree(b)%2 != 0 {
			sign = -1
		}
		hold(t, []law{{"exchanged", res(t, b, a), zpoly.Scale(res(t, a, b), zint.Of(sign))}}, a, b)
	})
}

// What is put to b of a turns nothing, as long as b's degree is the same; nor does a shift of both.
func TestResultantOfSums(t *testing.T) {
	m := newMaker(10)
	for range 400 {
		a, b, c, s := m.unlike(4), times(m.unlike(2), power(6)), m.some(3), zint.Of(m.IntN(9)-4)
		b = zpoly.Add(b, m.some(6))
		hold(t, []law{
			{"of b + c a", res(t, a, zpoly.Add(b, zpoly.Mul(c, a))), res(t, a, b)},
			{"shifted", res(t, zpoly.Shift(a, s), zpoly.Shift(b, s)), res(t, a, b)},
		}, a, b, c)
	}
}

func TestLawsOfGcd(t *testing.T) {
	m := newMaker(11)
	pairs(func(a, b []api.Int) {
		c, g := m.some(4), zgcd.Gcd(a, b)
		hold(t, []law{
			{"a and b, b and a", zgcd.Gcd(b, a), g},
			{"a and a b", zgcd.Gcd(a, zpoly.Mul(a, b)), zgcd.Gcd(a, nil)},
			{"a and b + c a", zgcd.Gcd(a, zpoly.Add(b, zpoly.Mul(c, a))), g},
			{"c a and c b", zgcd.Gcd(zpoly.Mul(c, a), zpoly.Mul(c, b)), zgcd.Gcd(zpoly.Mul(c, g), nil)},
			{"first a and b, then c", zgcd.Gcd(g, c), zgcd.Gcd(a, zgcd.Gcd(b, c))},
			{"with itself", zgcd.Gcd(g, g), g},
		}, a, b, c)
		for _, x := range [][]api.Int{a, b} {
			if _, e := zpoly.Div(x, g); e != api.OK && len(g) > 0 {
				t.Fatalf("%s: %s does not divide %s", said("Gcd", a, b), text(g), text(x))
			}
		}
	})
}

// What two have in common they have with the rest, too, but for numbers.
func TestPseudoKeepsDivisors(t *testing.T) {
	pairs(func(a, b []api.Int) {
		_, r, e := zgcd.Pseudo(a, b)
		if e != api.OK {
			return
		}
		hold(t, []law{{"b and the rest", zpoly.Prim(zgcd.Gcd(b, r)), zpoly.Prim(zgcd.Gcd(a, b))}}, a, b)
	})
}
