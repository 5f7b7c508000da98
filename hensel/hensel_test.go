package hensel_test

import (
	"math"
	"math/big"
	"testing"

	"cleaver/api"
	"cleaver/hensel"
	"cleaver/prime"
)

// P13.1

// near are the numbers above -m/2, at most m/2, that have the same rests, without noughts at the end.
func near(a []api.Int, m *big.Int) []api.Int {
	l := values(by(a, m))
	for _, v := range l {
		if new(big.Int).Lsh(v, 1).Cmp(m) > 0 {
			v.Sub(v, m)
		}
	}
	return plain(l)
}

func TestRedAndNearOfSome(t *testing.T) {
	for _, c := range []struct {
		a, red, near []api.Int
		m            int
	}{
		{nil, nil, nil, 5}, {poly(0, 0), nil, nil, 5}, {poly(5, -10, 25), nil, nil, 5}, {poly(7, 8, 9, 10), poly(2, 3, 4), poly(2, -2, -1), 5}, {poly(-1, 0, -6), poly(4, 0, 4), poly(-1, 0, -1), 5},
		{poly(4, 5, -4, 12), poly(4, 5, 4, 4), poly(4, -3, 4, 4), 8}, {poly(1, 2, 3), nil, nil, 1}, {poly(1, 2, 3), poly(1, 0, 1), poly(1, 0, 1), 2}, {poly(-3, -2, -1), poly(1, 0, 1), poly(1, 0, 1), 2},
		{poly(12, 13, 0, 25), poly(12, 13), poly(12, -12), 25},
	} {
		red, e := hensel.Red(c.a, small(c.m))
		nearest, f := hensel.Near(c.a, small(c.m))
		if e != api.OK || f != api.OK {
			t.Errorf("%s: %v, %v", said("", c.a, c.m), e, f)
		}
		want(t, said("Red", c.a, c.m), red, c.red)
		want(t, said("Near", c.a, c.m), nearest, c.near)
	}
}

func TestRedAndNear(t *testing.T) {
	check := func(a []api.Int, m api.Int) {
		red, e := hensel.Red(a, m)
		nearest, f := hensel.Near(a, m)
		if e != api.OK || f != api.OK {
			t.Fatalf("%s: %v, %v", said("", a, m), e, f)
		}
		want(t, said("Red", a, m), red, by(a, value(m)))
		want(t, said("Near", a, m), nearest, near(a, value(m)))
	}
	pairs(func(a, _ []api.Int, m api.Int) { check(a, m) })
	for _, a := range all(2, -9, 9) {
		for m := 1; m <= 9; m++ {
			check(poly(a...), small(m))
		}
	}
}

func TestMulOfSome(t *testing.T) {
	for _, c := range []struct {
		a, b, product []api.Int
		m             int
	}{
		{nil, poly(1, 2), nil, 5}, {poly(1, 2), nil, nil, 5}, {poly(7, 1), poly(18, 1), poly(1, 0, 1), 25}, {poly(0, 2), poly(1, 3), poly(0, 2), 6}, {poly(2, 2), poly(3, 3), nil, 6}, {poly(1, 1), poly(1, 1), nil, 1},
		{poly(-1, 1), poly(1, 1), poly(4, 0, 1), 5}, {poly(1, 5), poly(1, 1), poly(1, 1), 5},
	} {
		product, e := hensel.Mul(c.a, c.b, small(c.m))
		if e != api.OK {
			t.Errorf("%s: %v", said("Mul", c.a, c.b, c.m), e)
		}
		want(t, said("Mul", c.a, c.b, c.m), product, c.product)
	}
}

func TestMul(t *testing.T) {
	check := func(a, b []api.Int, m api.Int) {
		product, e := hensel.Mul(a, b, m)
		if e != api.OK {
			t.Fatalf("%s: %v", said("Mul", a, b, m), e)
		}
		want(t, said("Mul", a, b, m), product, by(times(a, b), value(m)))
	}
	pairs(check)
	for _, a := range all(2, -3, 3) {
		for _, b := range all(2, -3, 3) {
			for m := 1; m <= 6; m++ {
				check(poly(a...), poly(b...), small(m))
			}
		}
	}
}

// checkDiv holds an answer against what it means: by m there is but one such quotient with such a rest, as b is monic.
func checkDiv(t *testing.T, a, b []api.Int, m api.Int) {
	t.Helper()
	q, r, e := hensel.Div(a, b, m)
	divisor := by(b, value(m))
	if len(divisor) == 0 || !sameInt(divisor[len(divisor)-1], small(1)) {
		if e != api.ErrArg || q != nil || r != nil {
			t.Fatalf("%s: %s, %s, %v", said("Div", a, b, m), text(q), text(r), e)
		}
		return
	}
	if e != api.OK || len(r) >= len(divisor) || !same(q, by(q, value(m))) || !same(r, by(r, value(m))) {
		t.Fatalf("%s: %s, %s, %v", said("Div", a, b, m), text(q), text(r), e)
	}
	want(t, said("q b + r", a, b, m), by(plus(times(q, b), big.NewInt(1), r), value(m)), by(a, value(m)))
}

func TestDivOfSome(t *testing.T) {
	for _, c := range []struct {
		a, b, q, r []api.Int
		m          int
	}{
		{poly(1, 0, 1), poly(7, 1), poly(18, 1), nil, 25}, {poly(2, 0, 1), poly(7, 1), poly(18, 1), poly(1), 25}, {nil, poly(1), nil, nil, 5}, {poly(5, 10), poly(0, 1), nil, nil, 5},
		{poly(1, 2, 3), poly(1), poly(1, 2, 3), nil, 5}, {poly(1, 2, 3), poly(6), poly(1, 2, 3), nil, 5}, {poly(1, 2, 3), poly(-4, 0, 5), poly(1, 2, 3), nil, 5},
		{poly(3, 4), poly(0, 0, 1), nil, poly(3, 4), 6}, {poly(3, 4), poly(1, 1), poly(4), poly(5), 6}, {poly(0, 0, 3), poly(2, 1), poly(0, 3), nil, 6}, {poly(0, 0, 2), poly(2, 1), poly(2, 2), poly(2), 6},
		{poly(-1, 0, 0, 1), poly(-1, 1), poly(1, 1, 1), nil, 9}, {poly(-1, 0, 0, 1, 9), poly(-1, 10, 18), poly(1, 1, 1), nil, 9},
	} {
		q, r, e := hensel.Div(c.a, c.b, small(c.m))
		if e != api.OK {
			t.Errorf("%s: %v", said("Div", c.a, c.b, c.m), e)
		}
		want(t, said("Div", c.a, c.b, c.m), q, c.q)
		want(t, said("rest of Div", c.a, c.b, c.m), r, c.r)
	}
}

func TestDiv(t *testing.T) {
	pairs(func(a, b []api.Int, m api.Int) { checkDiv(t, a, b, m) })
	for _, a := range all(3, -1, 2) {
		for _, b := range all(3, -1, 2) {
			for m := 1; m <= 4; m++ {
				checkDiv(t, poly(a...), poly(b...), small(m))
			}
		}
	}
	m := newMaker(2)
	for range 500 {
		b, by := append(m.some(6), small(1)), moduli()[1+m.IntN(len(moduli())-1)]
		checkDiv(t, plus(times(m.some(6), b), big.NewInt(1), m.some(len(b))), b, by)
	}
}

// What b is by m alone decides: nought by m, and not monic by m, are refused, whatever it is by itself.
func TestDivRefuses(t *testing.T) {
	for _, c := range []struct {
		b []api.Int
		m int
	}{
		{nil, 5}, {poly(0, 0), 5}, {poly(5, 10), 5}, {poly(-25), 5}, {poly(2), 5}, {poly(1, 2), 5}, {poly(1, 4), 5}, {poly(1, -1), 5}, {poly(1, 2, 5), 5}, {poly(2, 5), 5}, {poly(1, 3), 6}, {poly(1, 5), 6}, {poly(1, 1), 1}, {poly(1), 1}, {nil, 1},
		{poly(2, 4), 2}, {poly(2, 3, 4), 4}, {poly(1, 2), 4},
	} {
		for _, a := range edges() {
			if q, r, e := hensel.Div(a, c.b, small(c.m)); e != api.ErrArg || q != nil || r != nil {
				t.Errorf("%s: %s, %s, %v", said("Div", a, c.b, c.m), text(q), text(r), e)
			}
		}
	}
}

func TestNoModulus(t *testing.T) {
	for _, m := range noModuli() {
		for _, a := range edges() {
			for _, b := range [][]api.Int{nil, poly(1), poly(1, 1), a} {
				red, e := hensel.Red(a, m)
				nearest, f := hensel.Near(a, m)
				product, g := hensel.Mul(a, b, m)
				q, r, h := hensel.Div(a, b, m)
				if e != api.ErrArg || f != api.ErrArg || g != api.ErrArg || h != api.ErrArg || red != nil || nearest != nil || product != nil || q != nil || r != nil {
					t.Fatalf("%s: %v, %v, %v, %v", said("by", a, b, m), e, f, g, h)
				}
			}
		}
	}
}

// P13.2

func TestPower(t *testing.T) {
	for p, e := prime.Next(0); e == api.OK; p, e = prime.Next(p) {
		checkPower(t, p, 1)
		checkPower(t, p, 2+p%9)
	}
	for _, p := range []int{2, 3, 5, 7, 251, 65519, 65521} {
		for k := 1; k <= 1000; k++ {
			checkPower(t, p, k)
		}
	}
}

func checkPower(t *testing.T, p, k int) {
	t.Helper()
	if power, e := hensel.Power(p, k); e != api.OK || !sameInt(power, of(powerOf(p, k))) {
		t.Fatalf("Power of %d, %d: %v, %v", p, k, power, e)
	}
}

func TestPowerRefuses(t *testing.T) {
	for _, c := range noPowers() {
		if power, e := hensel.Power(c[0], c[1]); e != api.ErrArg || power.Neg || power.Abs != nil {
			t.Errorf("Power of %d, %d: %v, %v", c[0], c[1], power, e)
		}
	}
}

// noPowers are numbers that are no primes, or too great ones, and exponents that may not be.
func noPowers() [][2]int {
	var all [][2]int
	for _, p := range []int{math.MinInt, -65521, -7, -2, -1, 0, 1, 4, 6, 9, 49, 65520, 65522, 65535, 65536, 65537, 1<<31 - 1, math.MaxInt} {
		for _, k := range []int{1, 2, 1000, 0, 1001} {
			all = append(all, [2]int{p, k})
		}
	}
	for _, p := range []int{2, 3, 5, 17, 65521} {
		for _, k := range []int{math.MinInt, -1000, -2, -1, 0, 1001, 1002, 65536, 1 << 32, math.MaxInt} {
			all = append(all, [2]int{p, k})
		}
	}
	return all
}
