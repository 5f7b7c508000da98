package zpoly_test

import (
	"math"
	"math/big"
	"slices"
	"testing"

	"cleaver/api"
	"cleaver/zpoly"
)

// P10.4

// moduli are numbers to divide by, primes and others, where something turns.
func moduli() []int {
	return []int{1, 2, 3, 4, 5, 6, 7, 12, 251, 256, 65520, 65521, 65537, 1<<31 - 1, 1 << 32, 1<<61 - 1, 1 << 62, math.MaxInt - 1, math.MaxInt}
}

// rests are the rests by p, by the library, without noughts at the end.
func rests(a []api.Int, p int) []int {
	z, end := make([]int, len(a)), 0
	for i, v := range values(a) {
		z[i] = int(v.Mod(v, big.NewInt(int64(p))).Int64())
		if z[i] != 0 {
			end = i + 1
		}
	}
	return z[:end]
}

func checkMod(t *testing.T, a []api.Int, p int) {
	t.Helper()
	if is, e := zpoly.Mod(a, p); e != api.OK || !slices.Equal(is, rests(a, p)) {
		t.Fatalf("%s: %v, %v, not %v", said("Mod", a, p), is, e, rests(a, p))
	}
}

func TestModOfSome(t *testing.T) {
	for _, c := range []struct {
		a  []api.Int
		p  int
		is []int
	}{
		{nil, 7, nil}, {poly(0, 0), 7, nil}, {poly(7, -14), 7, nil}, {poly(8, 0, -1, 7), 7, []int{1, 0, 6}}, {poly(1, 2, 3), 1, nil}, {poly(-1, 5), 2, []int{1, 1}}, {poly(-7, 4), 4, []int{1}},
		{poly(math.MinInt, math.MaxInt), math.MaxInt, []int{math.MaxInt - 1}}, {[]api.Int{num("0x1_0000000000000000"), num("-0x1_0000000000000000")}, 10, []int{6, 4}},
	} {
		if is, e := zpoly.Mod(c.a, c.p); e != api.OK || !slices.Equal(is, c.is) {
			t.Errorf("%s: %v, %v, not %v", said("Mod", c.a, c.p), is, e, c.is)
		}
	}
}

func TestMod(t *testing.T) {
	for _, p := range moduli() {
		for _, a := range edges() {
			checkMod(t, a, p)
		}
	}
	m := newMaker(6)
	pairs(func(a, _ []api.Int) { checkMod(t, a, moduli()[m.IntN(len(moduli()))]) })
}

func TestModRefuses(t *testing.T) {
	for _, p := range []int{0, -1, -2, -7, -65521, -1 << 32, math.MinInt + 1, math.MinInt} {
		for _, a := range edges() {
			if is, e := zpoly.Mod(a, p); e != api.ErrArg || is != nil {
				t.Errorf("%s: %v, %v", said("Mod", a, p), is, e)
			}
		}
	}
}

// Rests are lifted to what has the same rests; ints that are none are taken as they stand.
func TestLift(t *testing.T) {
	want(t, "Lift", zpoly.Lift([]int{3, -4, 0, 65521, 0}), poly(3, -4, 0, 65521))
	for _, p := range moduli() {
		for _, a := range edges() {
			l, _ := zpoly.Mod(a, p)
			lifted := zpoly.Lift(l)
			want(t, said("Lift", l), lifted, poly(l...))
			if back, e := zpoly.Mod(lifted, p); e != api.OK || !slices.Equal(back, l) {
				t.Errorf("%s: %v, %v", said("Mod of Lift", l, p), back, e)
			}
		}
	}
}
