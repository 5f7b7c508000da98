package hensel_test

import (
	"testing"

	"cleaver/api"
	"cleaver/hensel"
	"cleaver/zint"
	"cleaver/zpoly"
)

// P13.4: what follows, told by the calls alone; and what P13.3 says, by them.

// answered is what a call answers that may not answer an error.
func answered[T any](t *testing.T) func(a T, e api.Errno) T {
	return func(a T, e api.Errno) T {
		t.Helper()
		if e != api.OK {
			t.Fatal(a, e)
		}
		return a
	}
}

// A lift by k, and then by a lesser power, is the lift by that; the lift by p itself is the list.
func TestLesserPowers(t *testing.T) {
	lift, power, red := answered[[][]api.Int](t), answered[api.Int](t), answered[[]api.Int](t)
	many(func(c known) {
		z := lift(hensel.Lift(c.a, c.l, c.p, c.k))
		for k := 1; k <= c.k; k++ {
			lesser := lift(hensel.Lift(c.a, c.l, c.p, k))
			for i, f := range lesser {
				want(t, said("by a lesser power", c.a, c.l, c.p, c.k, k), f, red(hensel.Red(z[i], power(hensel.Power(c.p, k)))))
				if k == 1 {
					want(t, said("by p", c.a, c.l, c.p), f, zpoly.Lift(c.l[i]))
				}
			}
		}
	})
}

// Multiplied and divided by p^k, factors make what they are factors of, and come out of it.
func TestProductsByPowers(t *testing.T) {
	lift, red := answered[[][]api.Int](t), answered[[]api.Int](t)
	many(func(c known) {
		m := answered[api.Int](t)(hensel.Power(c.p, c.k))
		whole := red(hensel.Red(c.a, m))
		product, left := whole[len(whole)-1:], whole
		for i, f := range lift(hensel.Lift(c.a, c.l, c.p, c.k)) {
			product = red(hensel.Mul(product, f, m))
			q, r, e := hensel.Div(left, f, m)
			if e != api.OK || len(r) > 0 {
				t.Fatalf("%s: %s, %v", said("rest by a factor", c.a, c.l, c.p, c.k, i), text(r), e)
			}
			left = q
		}
		want(t, said("product", c.a, c.l, c.p, c.k), product, whole)
		want(t, said("left", c.a, c.l, c.p, c.k), left, whole[len(whole)-1:])
	})
}

// The rests by p^k are all that counts of a polynomial; nor does it matter how often it is taken.
func TestLiftOfTheSameByPower(t *testing.T) {
	lift, red := answered[[][]api.Int](t), answered[[]api.Int](t)
	many(func(c known) {
		m := answered[api.Int](t)(hensel.Power(c.p, c.k))
		z := lift(hensel.Lift(c.a, c.l, c.p, c.k))
		for _, other := range [][]api.Int{red(hensel.Red(c.a, m)), red(hensel.Near(c.a, m)), zpoly.Scale(c.a, zint.Of(-1)), zpoly.Scale(c.a, zint.Of(c.p+1))} {
			if !alike(lift(hensel.Lift(other, c.l, c.p, c.k)), z) {
				t.Fatal(said("Lift", other, c.l, c.p, c.k))
			}
		}
	})
}

// In another order the list is answered in that order; and two that are made one are lifted to the product.
func TestOrderAndJoints(t *testing.T) {
	m := newMaker(6)
	lift, red := answered[[][]api.Int](t), answered[[]api.Int](t)
	many(func(c known) {
		z := lift(hensel.Lift(c.a, c.l, c.p, c.k))
		places := m.Perm(len(c.l))
		var l [][]int
		for _, place := range places {
			l = append(l, c.l[place])
		}
		for i, f := range lift(hensel.Lift(c.a, l, c.p, c.k)) {
			want(t, said("in another order", c.a, c.l, c.p, c.k), f, z[places[i]])
		}
		if len(z) < 2 {
			return
		}
		by := answered[api.Int](t)(hensel.Power(c.p, c.k))
		joint := red(hensel.Mul(z[0], z[1], by))
		first := answered[[]int](t)(zpoly.Mod(joint, c.p))
		joined := lift(hensel.Lift(c.a, append([][]int{first}, c.l[2:]...), c.p, c.k))
		if !alike(joined, append([][]api.Int{joint}, z[2:]...)) {
			t.Fatal(said("two made one", c.a, c.l, c.p, c.k))
		}
	})
}

// Near and Red have the same rests, and the rests are their own; both go through sums and products.
func TestRests(t *testing.T) {
	red, near, mul := answered[[]api.Int](t), answered[[]api.Int](t), answered[[]api.Int](t)
	pairs(func(a, b []api.Int, m api.Int) {
		x, y := red(hensel.Red(a, m)), near(hensel.Near(b, m))
		want(t, said("Red of Red", a, m), red(hensel.Red(x, m)), x)
		want(t, said("Near of Near", b, m), near(hensel.Near(y, m)), y)
		want(t, said("Near of Red", a, m), near(hensel.Near(x, m)), near(hensel.Near(a, m)))
		want(t, said("Red of Near", b, m), red(hensel.Red(y, m)), red(hensel.Red(b, m)))
		want(t, said("a + b", a, b, m), red(hensel.Red(zpoly.Add(x, y), m)), red(hensel.Red(zpoly.Add(a, b), m)))
		want(t, said("a b", a, b, m), mul(hensel.Mul(x, y, m)), red(hensel.Red(zpoly.Mul(a, b), m)))
		want(t, said("b a", a, b, m), mul(hensel.Mul(b, a, m)), mul(hensel.Mul(a, b, m)))
	})
}

// By a monic polynomial, what was multiplied is divided without a rest, and what is added to it is the rest.
func TestDivOfProducts(t *testing.T) {
	r, mul := newMaker(7), answered[[]api.Int](t)
	for range 1000 {
		m := moduli()[1+r.IntN(len(moduli())-2)]
		a, b := r.some(9), append(r.some(7), small(1))
		rest := mul(hensel.Red(r.some(len(b)-1), m))
		product := mul(hensel.Mul(a, b, m))
		q, left, e := hensel.Div(zpoly.Add(product, rest), b, m)
		if e != api.OK || !same(q, mul(hensel.Red(a, m))) || !same(left, rest) {
			t.Fatalf("%s: %s, %s, %v", said("Div of a b + c by b", a, b, rest, m), text(q), text(left), e)
		}
	}
}

// A power times another one is that of both numbers together.
func TestPowersOfPowers(t *testing.T) {
	power := answered[api.Int](t)
	for _, p := range []int{2, 3, 101, 65521} {
		for k := 1; k < 1000; k += 37 {
			if rest := 1000 - k; !sameInt(zint.Mul(power(hensel.Power(p, k)), power(hensel.Power(p, rest))), power(hensel.Power(p, 1000))) {
				t.Fatalf("Power of %d, %d and %d", p, k, rest)
			}
		}
	}
}
