package rat_test

import (
	"math"
	"math/big"
	"testing"

	"cleaver/api"
	"cleaver/rat"
)

// P3.1

func TestMake(t *testing.T) {
	for _, c := range []struct {
		num, den int64
		is       string
	}{
		{6, -4, "-3/2"}, {-6, -4, "3/2"}, {6, 4, "3/2"}, {12, 18, "2/3"}, {0, -7, "0"}, {-7, 1, "-7"}, {7, -7, "-1"}, {1, 7, "1/7"},
		{-14, 7, "-2"}, {math.MinInt64, math.MinInt64, "1"}, {1, math.MinInt64, "-1/9223372036854775808"},
	} {
		a, e := rat.Make(whole(big.NewInt(c.num)), whole(big.NewInt(c.den)))
		if !same(a, frac(c.is)) || e != api.OK {
			t.Errorf("Make(%d, %d): %v, %v", c.num, c.den, a, e)
		}
	}
}

// Lower numbers with a sign turn that of the upper one; 0 has none, though Neg may be set.
func TestMakeOfAll(t *testing.T) {
	for _, a := range edges() {
		for _, neg := range []bool{false, true} {
			is, e := rat.Make(a.Num, api.Int{Neg: neg, Abs: a.Den})
			v := value(a)
			if neg {
				v.Neg(v)
			}
			switch {
			case natural(a.Den).Sign() != 0:
				if !same(is, of(v)) || e != api.OK {
					t.Errorf("Make of %v, %v: %v, %v", a, neg, is, e)
				}
			case !isZeroValue(is) || e != api.ErrZero:
				t.Errorf("Make of %v by 0, %v: %v, %v", a, neg, is, e)
			}
		}
	}
}

func TestNorm(t *testing.T) {
	for _, c := range []struct {
		a  api.Rat
		is string
	}{
		{api.Rat{}, "0"},
		{api.Rat{Num: api.Int{Neg: true, Abs: []uint64{5}}}, "0"},
		{api.Rat{Num: api.Int{Abs: []uint64{5}}, Den: []uint64{0, 0}}, "0"},
		{api.Rat{Num: api.Int{Neg: true, Abs: []uint64{0}}, Den: []uint64{5}}, "0"},
		{api.Rat{Num: api.Int{Neg: true, Abs: []uint64{6, 0}}, Den: []uint64{4, 0}}, "-3/2"},
		{api.Rat{Num: api.Int{Abs: []uint64{0, 1}}, Den: []uint64{0, 0, 1}}, "1/18446744073709551616"},
	} {
		if is := rat.Norm(c.a); !same(is, frac(c.is)) {
			t.Errorf("Norm(%v): %v", c.a, is)
		}
	}
	pairs(func(a, b api.Rat) {
		want(t, "Norm", rat.Norm(a), value(a))
		want(t, "Norm", rat.Norm(b), value(b))
	})
}

func TestOf(t *testing.T) {
	for _, n := range []int{0, 1, -1, 2, -2, 1 << 40, math.MaxInt, math.MinInt, math.MinInt + 1} {
		want(t, "Of", rat.Of(n), new(big.Rat).SetInt64(int64(n)))
	}
}

func TestSignAndNeg(t *testing.T) {
	pairs(func(a, b api.Rat) {
		if is := rat.Sign(a); is != value(a).Sign() {
			t.Errorf("Sign(%v): %d", a, is)
		}
		want(t, "Neg", rat.Neg(b), new(big.Rat).Neg(value(b)))
	})
}

func TestCmp(t *testing.T) {
	for _, c := range []struct {
		a, b string
		is   int
	}{
		{"1/2", "1/3", 1}, {"-1/2", "-1/3", -1}, {"1/2", "-1/3", 1}, {"-1/2", "1/3", -1}, {"2/4", "1/2", 0}, {"0", "1/100", -1}, {"7", "13/2", 1},
	} {
		if is := rat.Cmp(frac(c.a), frac(c.b)); is != c.is {
			t.Errorf("Cmp(%s, %s): %d", c.a, c.b, is)
		}
	}
	pairs(func(a, b api.Rat) {
		if is := rat.Cmp(a, b); is != value(a).Cmp(value(b)) {
			t.Errorf("Cmp(%v, %v): %d", a, b, is)
		}
	})
}

func TestAddSubMul(t *testing.T) {
	if is := rat.Add(frac("1/2"), frac("1/3")); !same(is, frac("5/6")) {
		t.Errorf("1/2 + 1/3: %v", is)
	}
	pairs(func(a, b api.Rat) {
		x, y := value(a), value(b)
		want(t, "Add", rat.Add(a, b), new(big.Rat).Add(x, y))
		want(t, "Sub", rat.Sub(a, b), new(big.Rat).Sub(x, y))
		want(t, "Mul", rat.Mul(a, b), new(big.Rat).Mul(x, y))
	})
}

func TestDiv(t *testing.T) {
	pairs(func(a, b api.Rat) {
		is, e := rat.Div(a, b)
		x, y := value(a), value(b)
		switch {
		case y.Sign() != 0:
			if !same(is, of(x.Quo(x, y))) || e != api.OK {
				t.Errorf("Div(%v, %v): %v, %v", a, b, is, e)
			}
		case !isZeroValue(is) || e != api.ErrZero:
			t.Errorf("Div(%v, %v): %v, %v", a, b, is, e)
		}
	})
}

func TestWhole(t *testing.T) {
	for _, c := range []struct {
		a  api.Rat
		is int64
		ok bool
	}{
		{api.Rat{}, 0, true},
		{api.Rat{Num: api.Int{Neg: true, Abs: []uint64{3}}}, 0, true},
		{api.Rat{Num: api.Int{Neg: true}, Den: []uint64{3}}, 0, true},
		{frac("7"), 7, true},
		{frac("-7"), -7, true},
		{frac("7/2"), 0, false},
		{frac("-1/2"), 0, false},
		{api.Rat{Num: api.Int{Neg: true, Abs: []uint64{12, 0}}, Den: []uint64{4, 0}}, -3, true},
		{api.Rat{Num: api.Int{Abs: []uint64{4}}, Den: []uint64{12}}, 0, false},
	} {
		if is, ok := rat.Whole(c.a); !sameInt(is, whole(big.NewInt(c.is))) || ok != c.ok {
			t.Errorf("Whole(%v): %v, %v", c.a, is, ok)
		}
	}
	pairs(func(a, b api.Rat) {
		v := value(a)
		is, ok := rat.Whole(a)
		if ok != v.IsInt() || ok && !sameInt(is, whole(v.Num())) || !ok && !sameInt(is, api.Int{}) {
			t.Errorf("Whole(%v): %v, %v", a, is, ok)
		}
	})
}

// Numbers as long as the limits speak of.
func TestGreat(t *testing.T) {
	m := newMaker(2)
	num, den, other := m.integer(api.MaxLimbs), m.integer(700), m.integer(300)
	a, e := rat.Make(num, den)
	if v := new(big.Rat).SetFrac(integer(num), integer(den)); e != api.OK || !same(a, of(v)) {
		t.Errorf("Make of long numbers: %v", e)
	}
	b, _ := rat.Make(other, num)
	want(t, "Add", rat.Add(a, b), new(big.Rat).Add(value(a), value(b)))
	want(t, "Mul", rat.Mul(a, b), new(big.Rat).Mul(value(a), value(b)))
	if is := rat.Cmp(a, b); is != value(a).Cmp(value(b)) {
		t.Errorf("Cmp of long numbers: %d", is)
	}
}
