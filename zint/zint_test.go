package zint_test

import (
	"math"
	"math/big"
	"testing"

	"cleaver/api"
	"cleaver/zint"
)

// P2.1

func TestNorm(t *testing.T) {
	for _, c := range []struct{ a, is api.Int }{
		{api.Int{}, api.Int{}},
		{api.Int{Neg: true}, api.Int{}},
		{api.Int{Neg: true, Abs: []uint64{0, 0}}, api.Int{}},
		{api.Int{Abs: []uint64{0}}, api.Int{}},
		{api.Int{Neg: true, Abs: []uint64{7, 0}}, api.Int{Neg: true, Abs: []uint64{7}}},
		{api.Int{Abs: []uint64{0, 7, 0, 0}}, api.Int{Abs: []uint64{0, 7}}},
	} {
		if is := zint.Norm(c.a); !same(is, c.is) {
			t.Errorf("Norm(%v): %v", c.a, is)
		}
	}
	for _, a := range edges() {
		want(t, "Norm", zint.Norm(a), value(a))
	}
}

func TestOf(t *testing.T) {
	for _, n := range []int{0, 1, -1, 2, -2, 1 << 40, -1 << 40, math.MaxInt, math.MaxInt - 1, math.MinInt, math.MinInt + 1} {
		a := zint.Of(n)
		want(t, "Of", a, big.NewInt(int64(n)))
		if back, ok := zint.Small(a); back != n || !ok {
			t.Errorf("Small(Of(%d)): %d, %v", n, back, ok)
		}
	}
}

func TestSmall(t *testing.T) {
	for _, c := range []struct {
		a  api.Int
		is int
		ok bool
	}{
		{api.Int{}, 0, true},
		{api.Int{Neg: true}, 0, true},
		{api.Int{Neg: true, Abs: []uint64{0, 0}}, 0, true},
		{num("9223372036854775807"), math.MaxInt, true},
		{num("9223372036854775808"), 0, false},
		{num("-9223372036854775808"), math.MinInt, true},
		{num("-9223372036854775809"), 0, false},
		{num("18446744073709551615"), 0, false},
		{num("-18446744073709551615"), 0, false},
		{num("18446744073709551616"), 0, false},
		{num("-18446744073709551617"), 0, false},
		{api.Int{Abs: []uint64{0, 0, 1}}, 0, false},
		{api.Int{Neg: true, Abs: []uint64{1 << 63, 0, 0}}, math.MinInt, true},
		{api.Int{Abs: []uint64{5, 0}}, 5, true},
	} {
		if is, ok := zint.Small(c.a); is != c.is || ok != c.ok {
			t.Errorf("Small(%v): %d, %v", c.a, is, ok)
		}
	}
	for _, a := range edges() {
		is, ok := zint.Small(a)
		if v := value(a); ok != v.IsInt64() || ok && int64(is) != v.Int64() || !ok && is != 0 {
			t.Errorf("Small(%v): %d, %v", a, is, ok)
		}
	}
}

func TestSignAndNeg(t *testing.T) {
	for _, a := range edges() {
		if is := zint.Sign(a); is != value(a).Sign() {
			t.Errorf("Sign(%v): %d", a, is)
		}
		want(t, "Neg", zint.Neg(a), new(big.Int).Neg(value(a)))
	}
}

func TestCmp(t *testing.T) {
	pairs(func(a, b api.Int) {
		if is := zint.Cmp(a, b); is != value(a).Cmp(value(b)) {
			t.Errorf("Cmp(%v, %v): %d", a, b, is)
		}
	})
}

func TestAddSubMul(t *testing.T) {
	pairs(func(a, b api.Int) {
		x, y := value(a), value(b)
		want(t, "Add", zint.Add(a, b), new(big.Int).Add(x, y))
		want(t, "Sub", zint.Sub(a, b), new(big.Int).Sub(x, y))
		want(t, "Mul", zint.Mul(a, b), new(big.Int).Mul(x, y))
	})
}

func TestMulGreat(t *testing.T) {
	m := newMaker(2)
	a, b := m.some(1000), m.some(700)
	want(t, "Mul", zint.Mul(a, b), new(big.Int).Mul(value(a), value(b)))
}
