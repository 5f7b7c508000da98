package zint_test

import (
	"math/big"
	"testing"

	"cleaver/api"
	"cleaver/zint"
)

// P2.2

func TestDivBySigns(t *testing.T) {
	for _, c := range []struct{ a, b, q, r int }{
		{7, 2, 3, 1}, {-7, 2, -4, 1}, {7, -2, -3, 1}, {-7, -2, 4, 1},
		{6, 2, 3, 0}, {-6, 2, -3, 0}, {6, -2, -3, 0}, {-6, -2, 3, 0},
		{1, 5, 0, 1}, {-1, 5, -1, 4}, {1, -5, 0, 1}, {-1, -5, 1, 4},
		{0, 5, 0, 0}, {0, -5, 0, 0}, {5, 1, 5, 0}, {-5, -1, 5, 0},
	} {
		q, r, e := zint.Div(zint.Of(c.a), zint.Of(c.b))
		if e != api.OK || !same(q, zint.Of(c.q)) || !same(r, zint.Of(c.r)) {
			t.Errorf("Div(%d, %d): %v, %v, %v", c.a, c.b, q, r, e)
		}
	}
}

// The library's Euclidean division has the same rests.
func TestDiv(t *testing.T) {
	pairs(func(a, b api.Int) {
		q, r, e := zint.Div(a, b)
		if value(b).Sign() == 0 {
			if e != api.ErrZero || !isNought(q) || !isNought(r) {
				t.Errorf("Div(%v, %v): %v, %v, %v", a, b, q, r, e)
			}
			return
		}
		quotient, rest := new(big.Int).DivMod(value(a), value(b), new(big.Int))
		want(t, "Div", q, quotient)
		want(t, "Div's rest", r, rest)
		if e != api.OK {
			t.Errorf("Div(%v, %v): %v", a, b, e)
		}
	})
}

func TestExact(t *testing.T) {
	pairs(func(a, b api.Int) {
		checkExact(t, a, b)
		checkExact(t, of(new(big.Int).Mul(value(a), value(b))), b)
	})
}

func checkExact(t *testing.T, a, b api.Int) {
	t.Helper()
	wanted, quotient := api.ErrZero, new(big.Int)
	if y := value(b); y.Sign() != 0 {
		rest := new(big.Int)
		quotient.QuoRem(value(a), y, rest)
		wanted = api.OK
		if rest.Sign() != 0 {
			wanted = api.ErrExact
			quotient.SetInt64(0)
		}
	}
	q, e := zint.Exact(a, b)
	if e != wanted {
		t.Errorf("Exact(%v, %v): %v, not %v", a, b, e, wanted)
	}
	want(t, "Exact", q, quotient)
}

// 0 by 0 goes into no one's number, either.
func TestDivisionsByNought(t *testing.T) {
	for _, a := range edges() {
		for _, b := range []api.Int{{}, {Neg: true}, {Abs: []uint64{0, 0}}, {Neg: true, Abs: []uint64{0}}} {
			if q, r, e := zint.Div(a, b); e != api.ErrZero || !isNought(q) || !isNought(r) {
				t.Errorf("Div(%v, %v): %v, %v, %v", a, b, q, r, e)
			}
			if q, e := zint.Exact(a, b); e != api.ErrZero || !isNought(q) {
				t.Errorf("Exact(%v, %v): %v, %v", a, b, q, e)
			}
		}
	}
}
