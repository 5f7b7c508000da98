package zpoly_test

import (
	"math/big"
	"testing"

	"cleaver/api"
	"cleaver/zpoly"
)

// P10.2

// checkDiv holds an answer against what is told by hand.
func checkDiv(t *testing.T, a, b []api.Int) {
	t.Helper()
	wanted, number := []api.Int(nil), api.ErrZero
	if len(plain(values(b))) > 0 {
		number = api.ErrExact
		if q, ok := quotient(a, b); ok {
			wanted, number = q, api.OK
		}
	}
	q, e := zpoly.Div(a, b)
	if e != number || !same(q, wanted) || e != api.OK && q != nil {
		t.Fatalf("%s: %s, %v, not %s, %v", said("Div", a, b), text(q), e, text(wanted), number)
	}
}

func TestDivOfSome(t *testing.T) {
	for _, c := range []struct{ a, b, q []api.Int }{
		{poly(-1, 0, 1), poly(1, 1), poly(-1, 1)}, {poly(-1, 0, 1, 0, 0), poly(1, 1, 0), poly(-1, 1)}, {poly(6, -9), poly(-3), poly(-2, 3)}, {poly(6, -9), poly(-2, 3), poly(-3)},
		{nil, poly(5), nil}, {poly(0, 0), poly(0, 2), nil}, {nil, poly(1, 2, 3), nil}, {poly(1, 2, 3), poly(1, 2, 3), poly(1)}, {poly(1, 2, 3), poly(-1, -2, -3), poly(-1)},
		{poly(0, 0, 4), poly(0, 2), poly(0, 2)}, {poly(0, 0, 0, 1), poly(0, 0, 1), poly(0, 1)}, {poly(-2, -1, 6), poly(1, 2), poly(-2, 3)},
		{poly(5, 7, 0, -3), poly(1), poly(5, 7, 0, -3)}, {poly(5, 7, 0, -3), poly(-1, 0), poly(-5, -7, 0, 3)},
	} {
		if q, e := zpoly.Div(c.a, c.b); e != api.OK || !same(q, c.q) {
			t.Errorf("%s: %s, %v, not %s", said("Div", c.a, c.b), text(q), e, text(c.q))
		}
	}
}

// A rest is left, or a number that is none of the integers: ahead, in the midst, or at the very end.
func TestDivIsNotExact(t *testing.T) {
	for _, c := range []struct{ a, b []api.Int }{
		{poly(0, 0, 1), poly(0, 2)}, {poly(1), poly(2)}, {poly(3), poly(-2)}, {poly(2, 4, 5), poly(2)}, {poly(3, 4, 2), poly(2)}, {poly(2, 3, 2), poly(2)},
		{poly(1), poly(0, 1)}, {poly(5), poly(1, 1)}, {poly(1, 1), poly(1, 1, 1)}, {poly(0, 1), poly(0, 0, 1)}, {poly(1, 2, 1), poly(-1, 1)}, {poly(1, 0, 1), poly(1, 1)},
		{poly(-1, 0, 1), poly(2, 2)}, {poly(-2, 0, 2), poly(0, 0, 1)}, {poly(1, 0, 2), poly(0, 0, 2)}, {poly(0, 1, 2), poly(0, 0, 2)}, {poly(-1, 0, 4), poly(2, 4)},
	} {
		if q, e := zpoly.Div(c.a, c.b); e != api.ErrExact || q != nil {
			t.Errorf("%s: %s, %v", said("Div", c.a, c.b), text(q), e)
		}
	}
}

// Nought by nought is a division by nought, too.
func TestDivByNought(t *testing.T) {
	for _, b := range [][]api.Int{nil, {}, poly(0), poly(0, 0), {{Neg: true}}, {{Abs: []uint64{0}}, {Neg: true, Abs: []uint64{0, 0}}}} {
		for _, a := range edges() {
			if q, e := zpoly.Div(a, b); e != api.ErrZero || q != nil {
				t.Errorf("%s: %s, %v", said("Div", a, b), text(q), e)
			}
		}
	}
}

func TestDiv(t *testing.T) {
	pairs(func(a, b []api.Int) {
		checkDiv(t, a, b)
		checkDiv(t, times(a, b), a)
	})
	small := all(3, 2)
	for _, a := range small {
		for _, b := range small {
			checkDiv(t, a, b)
		}
	}
}

// One coefficient of a product that is off, by little or by much, is enough to refuse it.
func TestDivOfWhatIsNearlyAProduct(t *testing.T) {
	m := newMaker(3)
	for range 150 {
		a, b := m.unlike(7), append(m.unlike(6), small(2))
		product := times(a, b)
		for i := range product {
			for _, off := range []api.Int{small(1), small(-1), small(2), num("0x1_0000000000000000"), num("-0x3_0000000000000000_0000000000000000")} {
				near := values(product)
				near[i].Add(near[i], value(off))
				checkDiv(t, plain(near), b)
			}
		}
	}
}

// What goes into a product comes out of it, in the sizes that factors of degree 64 have.
func TestDivOfGreatOnes(t *testing.T) {
	m := newMaker(4)
	for range 5 {
		a, b := make([]api.Int, 65), make([]api.Int, 65)
		for i := range a {
			a[i], b[i] = greatNumber(m), greatNumber(m)
		}
		product := zpoly.Mul(a, b)
		want(t, "product", product, times(a, b))
		if q, e := zpoly.Div(product, b); e != api.OK || !same(q, plain(values(a))) {
			t.Error("Div of great ones: ", e)
		}
	}
}

func greatNumber(m maker) api.Int {
	v := new(big.Int).SetUint64(m.Uint64() | 1)
	return of(v.Lsh(v, uint(m.IntN(1000))))
}
