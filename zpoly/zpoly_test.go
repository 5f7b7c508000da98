package zpoly_test

import (
	"math"
	"math/big"
	"slices"
	"testing"

	"cleaver/api"
	"cleaver/zpoly"
)

// P10.1

func TestNorm(t *testing.T) {
	for _, c := range []struct{ a, plain []api.Int }{
		{nil, nil}, {[]api.Int{}, nil}, {poly(0, 0, 0), nil}, {[]api.Int{{Neg: true}, {Abs: []uint64{0, 0}}, {Neg: true, Abs: []uint64{0}}}, nil},
		{poly(1, 0, -2, 0), poly(1, 0, -2)}, {poly(0, 0, 3), poly(0, 0, 3)},
		{[]api.Int{{Neg: true}, {Neg: true, Abs: []uint64{5, 0}}, {Abs: []uint64{0, 1, 0}}, {Neg: true, Abs: []uint64{0}}}, []api.Int{small(0), small(-5), num("0x1_0000000000000000")}},
	} {
		want(t, said("Norm", c.a), zpoly.Norm(c.a), c.plain)
	}
	pairs(func(a, _ []api.Int) { want(t, said("Norm", a), zpoly.Norm(a), plain(values(a))) })
}

func TestOf(t *testing.T) {
	want(t, "Of nothing", zpoly.Of(), nil)
	for _, c := range []struct {
		l  []int
		is []api.Int
	}{
		{nil, nil}, {[]int{0}, nil}, {[]int{0, 0, 0}, nil}, {[]int{1, -2, 3}, poly(1, -2, 3)}, {[]int{0, 0, 7, 0}, poly(0, 0, 7)}, {[]int{-1, 0}, poly(-1)},
		{[]int{math.MinInt, math.MaxInt}, []api.Int{num("-0x8000000000000000"), num("0x7fffffffffffffff")}},
	} {
		want(t, said("Of", c.l), zpoly.Of(c.l...), c.is)
		want(t, said("Lift", c.l), zpoly.Lift(c.l), c.is) // P10.4
	}
}

// The first ones of all in their order: each stands ahead of each behind it, and of none else.
func TestLess(t *testing.T) {
	row := [][]api.Int{
		nil, {num("-0x1_0000000000000000")}, {small(math.MinInt)}, poly(-9), poly(-1), poly(1), poly(2), {num("0x1_0000000000000000")},
		poly(math.MaxInt, -2), poly(-9, -1), poly(-1, -1), poly(0, -1), poly(7, -1), poly(-3, 1), poly(0, 1), poly(3, 1), poly(math.MinInt, 2),
		poly(5, 1, -1), poly(0, -4, 1), poly(1, -4, 1), poly(-7, 3, 1), poly(-7, 0, 2), poly(0, 0, 0, -5), poly(0, 0, 0, 5),
	}
	for i, a := range row {
		for j, b := range row {
			if is := zpoly.Less(a, b); is != (i < j) {
				t.Errorf("%s: %v", said("Less", a, b), is)
			}
			unlikeA, unlikeB := append(slices.Clone(a), api.Int{Neg: true}), append(slices.Clone(b), poly(0, 0)...)
			if is := zpoly.Less(unlikeA, unlikeB); is != (i < j) {
				t.Errorf("%s: %v", said("Less", unlikeA, unlikeB), is)
			}
		}
	}
}

// compare is -1, 0, 1, as a is ahead of b, is b, is behind it: from the highest of all places down, the first that is not the same.
func compare(a, b []api.Int) int {
	x, y := values(plain(values(a))), values(plain(values(b)))
	if len(x) != len(y) {
		return len(x) - len(y)
	}
	for i := len(x) - 1; i >= 0; i-- {
		if c := x[i].Cmp(y[i]); c != 0 {
			return c
		}
	}
	return 0
}

func TestLessOfPairs(t *testing.T) {
	pairs(func(a, b []api.Int) {
		if is := zpoly.Less(a, b); is != (compare(a, b) < 0) {
			t.Fatalf("%s: %v", said("Less", a, b), is)
		}
	})
}

func TestAddSubMul(t *testing.T) {
	pairs(func(a, b []api.Int) {
		want(t, said("Add", a, b), zpoly.Add(a, b), plusTimes(a, 1, b))
		want(t, said("Sub", a, b), zpoly.Sub(a, b), plusTimes(a, -1, b))
		want(t, said("Mul", a, b), zpoly.Mul(a, b), times(a, b))
	})
}

// Where the highest coefficients make nought, the answer gets shorter.
func TestEndsThatGoOut(t *testing.T) {
	want(t, "sum", zpoly.Add(poly(1, 2, 3), poly(1, -2, -3)), poly(2))
	want(t, "sum", zpoly.Add(poly(1, 2, 3), poly(-1, -2, -3)), nil)
	want(t, "difference", zpoly.Sub(poly(1, 2, 3), poly(1, 1, 3)), poly(0, 1))
	want(t, "difference", zpoly.Sub(poly(1, 2), poly(0, 0, 1)), poly(1, 2, -1))
	want(t, "product", zpoly.Mul(poly(-1, 1), poly(1, 1, 1, 1)), poly(-1, 0, 0, 0, 1))
}

// All coefficients are -1, so the product's are how many places make them.
func TestMulOfLong(t *testing.T) {
	a, b, wanted := make([]int, 300), make([]int, 200), make([]int, 499)
	for _, l := range [][]int{a, b} {
		for i := range l {
			l[i] = -1
		}
	}
	for i := range wanted {
		wanted[i] = min(i+1, 200, 499-i)
	}
	want(t, "product", zpoly.Mul(poly(a...), poly(b...)), poly(wanted...))
}

func TestScale(t *testing.T) {
	want(t, "Scale", zpoly.Scale(poly(1, 0, -2, 0), small(-3)), poly(-3, 0, 6))
	want(t, "Scale", zpoly.Scale(poly(1, 2), api.Int{Neg: true, Abs: []uint64{0}}), nil)
	for _, c := range numbers() {
		for _, a := range edges() {
			want(t, said("Scale", a, c), zpoly.Scale(a, c), times(a, []api.Int{c}))
		}
	}
	pairs(func(a, b []api.Int) {
		for _, c := range b {
			want(t, said("Scale", a, c), zpoly.Scale(a, c), times(a, []api.Int{c}))
		}
	})
}

func TestDeriv(t *testing.T) {
	want(t, "Deriv", zpoly.Deriv(poly(5, 3, 0, -1, 2, 0)), poly(3, 0, -3, 8))
	for _, a := range [][]api.Int{nil, poly(0), poly(0, 0), poly(7), poly(-7, 0, 0), {{Neg: true}}} {
		want(t, said("Deriv", a), zpoly.Deriv(a), nil)
	}
	pairs(func(a, _ []api.Int) {
		var wanted []*big.Int
		for i, v := range values(a) {
			if i > 0 {
				wanted = append(wanted, v.Mul(v, big.NewInt(int64(i))))
			}
		}
		want(t, said("Deriv", a), zpoly.Deriv(a), plain(wanted))
	})
}

// at is a's value at x, power by power.
func at(a []api.Int, x api.Int) *big.Int {
	sum, power := new(big.Int), big.NewInt(1)
	for _, v := range values(a) {
		sum.Add(sum, v.Mul(v, power))
		power.Mul(power, value(x))
	}
	return sum
}

func TestEval(t *testing.T) {
	for _, c := range []struct {
		a     []api.Int
		x, is int
	}{
		{nil, 5, 0}, {poly(0, 0), 5, 0}, {poly(7), 5, 7}, {poly(7, 0), 0, 7}, {poly(-7, 3), 0, -7}, {poly(1, -2, 3), 2, 9}, {poly(1, -2, 3), -2, 17}, {poly(-1, 0, 1), 1, 0}, {poly(-1, 0, 1, 0), -1, 0},
	} {
		wantInt(t, said("Eval", c.a, c.x), zpoly.Eval(c.a, small(c.x)), big.NewInt(int64(c.is)))
	}
	for _, x := range numbers() {
		for _, a := range edges() {
			wantInt(t, said("Eval", a, x), zpoly.Eval(a, x), at(a, x))
		}
	}
	pairs(func(a, b []api.Int) {
		for _, x := range b {
			wantInt(t, said("Eval", a, x), zpoly.Eval(a, x), at(a, x))
		}
	})
}

// shifted is the sum of each coefficient times that power of x + s.
func shifted(a []api.Int, s api.Int) []api.Int {
	sum, power := plain(nil), poly(1)
	for _, c := range a {
		sum = plusTimes(sum, 1, times(power, []api.Int{c}))
		power = times(power, []api.Int{s, small(1)})
	}
	return sum
}

func TestShift(t *testing.T) {
	for _, c := range []struct {
		a  []api.Int
		s  int
		is []api.Int
	}{
		{poly(0, 0, 1), 1, poly(1, 2, 1)}, {poly(0, 0, 1, 0), -1, poly(1, -2, 1)}, {poly(1, 2, 1), -1, poly(0, 0, 1)}, {poly(5, 1), 7, poly(12, 1)}, {poly(5, -2), 7, poly(-9, -2)},
		{nil, 3, nil}, {poly(0, 0), 3, nil}, {poly(-4), 3, poly(-4)}, {poly(1, 2, 3, 0), 0, poly(1, 2, 3)}, {poly(0, 0, 0, 2), 3, poly(54, 54, 18, 2)},
	} {
		want(t, said("Shift", c.a, c.s), zpoly.Shift(c.a, small(c.s)), c.is)
	}
	for _, s := range numbers() {
		for _, a := range edges() {
			want(t, said("Shift", a, s), zpoly.Shift(a, s), shifted(a, s))
		}
	}
	m := newMaker(2)
	for range 500 {
		a, s := m.some(12), m.number()
		want(t, said("Shift", a, s), zpoly.Shift(a, s), shifted(a, s))
	}
}

// The coefficients of a power of x + s are told by the numbers of ways to choose.
func TestShiftTellsBinomials(t *testing.T) {
	for n := range 80 {
		power := make([]int, n+1)
		power[n] = 1
		wanted := noughts(n + 1)
		for i := range wanted {
			wanted[i].Mul(new(big.Int).Binomial(int64(n), int64(i)), new(big.Int).Exp(big.NewInt(-5), big.NewInt(int64(n-i)), nil))
		}
		want(t, "Shift of a power", zpoly.Shift(poly(power...), small(-5)), plain(wanted))
	}
}
