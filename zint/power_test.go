package zint_test

import (
	"math"
	"math/big"
	"testing"

	"cleaver/api"
	"cleaver/zint"
)

// P2.4

func TestPow(t *testing.T) {
	for _, a := range edges() {
		for _, n := range []int{0, 1, 2, 3, 4, 5, 7, 8, 31, 64, 100, 255} {
			is, e := zint.Pow(a, n)
			if e != api.OK {
				t.Errorf("Pow(%v, %d): %v", a, n, e)
			}
			want(t, "Pow", is, new(big.Int).Exp(value(a), big.NewInt(int64(n)), nil))
		}
	}
}

func TestPowAtItsLimits(t *testing.T) {
	unit := func(bits uint) api.Int { return of(new(big.Int).Lsh(big.NewInt(1), bits-1)) }
	full := func(bits uint) api.Int {
		return zint.Neg(of(new(big.Int).Sub(new(big.Int).Lsh(big.NewInt(1), bits), big.NewInt(1))))
	}
	for _, c := range []struct {
		a    api.Int
		n    int
		ends api.Errno
	}{
		{zint.Of(0), 1 << 16, api.OK}, {zint.Of(1), 1 << 16, api.OK}, {zint.Of(-1), 1 << 16, api.OK}, {zint.Of(-1), 1<<16 - 1, api.OK},
		{zint.Of(2), 1 << 16, api.OK}, {zint.Of(15), 1 << 16, api.OK}, {zint.Of(-15), 1<<16 - 1, api.OK},
		{zint.Of(16), 1 << 16, api.ErrLimit}, {zint.Of(-16), 52428, api.OK}, {zint.Of(16), 52429, api.ErrLimit},
		{unit(1 << 17), 2, api.OK}, {full(1 << 17), 2, api.OK}, {unit(1<<17 + 1), 2, api.ErrLimit},
		{unit(1 << 18), 1, api.OK}, {full(1 << 18), 1, api.OK}, {unit(1<<18 + 1), 1, api.ErrLimit}, {unit(1<<18 + 1), 0, api.OK},
		{full(1 << 20), 0, api.OK}, {full(1 << 20), 1, api.ErrLimit}, {full(1 << 20), 1 << 16, api.ErrLimit},
		{full(1 << 20), 1<<16 + 1, api.ErrArg}, {full(1 << 20), -1, api.ErrArg},
		{zint.Of(0), 1<<16 + 1, api.ErrArg}, {zint.Of(1), 1<<16 + 1, api.ErrArg}, {zint.Of(-1), -1, api.ErrArg}, {zint.Of(0), -1, api.ErrArg},
		{zint.Of(2), math.MaxInt, api.ErrArg}, {zint.Of(2), math.MinInt, api.ErrArg},
		{api.Int{Abs: append(unit(1<<18).Abs, 0, 0)}, 1, api.OK},
	} {
		is, e := zint.Pow(c.a, c.n)
		wanted := new(big.Int)
		if c.ends == api.OK {
			wanted.Exp(value(c.a), big.NewInt(int64(c.n)), nil)
		}
		if e != c.ends || !same(is, of(wanted)) {
			t.Errorf("Pow of %d bits, %d: %v, %v", value(c.a).BitLen(), c.n, e, c.ends)
		}
	}
}

// checkRoot asks for the k-th powers about the root.
func checkRoot(t *testing.T, a api.Int, k int) {
	t.Helper()
	is, e := zint.Root(a, k)
	if e != api.OK {
		t.Fatalf("Root(%v, %d): %v", a, k, e)
	}
	r, exponent := value(is), big.NewInt(int64(k))
	want(t, "Root", is, r)
	after := new(big.Int).Add(r, big.NewInt(1))
	if r.Sign() < 0 || r.Exp(r, exponent, nil).Cmp(value(a)) > 0 || after.Exp(after, exponent, nil).Cmp(value(a)) <= 0 {
		t.Fatalf("Root(%v, %d): %v", a, k, is)
	}
}

func TestRootOfSmallOnes(t *testing.T) {
	for _, c := range []struct{ a, k, is int }{
		{27, 3, 3}, {26, 3, 2}, {28, 3, 3}, {0, 1, 0}, {0, 64, 0}, {1, 1, 1}, {1, 64, 1}, {2, 64, 1}, {99, 2, 9}, {100, 2, 10}, {101, 2, 10}, {77, 1, 77},
		{math.MaxInt, 62, 2}, {math.MaxInt, 63, 1}, {math.MaxInt, 2, 3037000499},
	} {
		if is, e := zint.Root(zint.Of(c.a), c.k); e != api.OK || !same(is, zint.Of(c.is)) {
			t.Errorf("Root(%d, %d): %v, %v", c.a, c.k, is, e)
		}
	}
	for a := range 1100 {
		for k := 1; k <= 12; k++ {
			checkRoot(t, zint.Of(a), k)
		}
	}
}

// Just at a power, and just below and above it.
func TestRootAtPowers(t *testing.T) {
	m := newMaker(7)
	for k := 1; k <= 64; k++ {
		bases := []*big.Int{big.NewInt(2), big.NewInt(3), big.NewInt(1 << 31), value(num("0xffffffffffffffff")), value(num("0x1_0000000000000000"))}
		for _, n := range []int{1, 2, 3, 5} {
			bases = append(bases, value(m.some(n)))
		}
		for _, base := range bases {
			power := new(big.Int).Exp(base.Abs(base), big.NewInt(int64(k)), nil)
			for _, off := range []int64{-1, 0, 1} {
				if a := new(big.Int).Add(power, big.NewInt(off)); a.Sign() >= 0 {
					checkRoot(t, of(a), k)
				}
			}
		}
	}
}

func TestRootOfGreatOnes(t *testing.T) {
	m := newMaker(8)
	for range 400 {
		a := m.some(m.IntN(40))
		a.Neg = false
		checkRoot(t, a, 1+m.IntN(64))
	}
	for _, n := range []int{api.MaxLimbs, api.MaxLimbs + 1} {
		a := m.some(n)
		a.Neg = false
		for _, k := range []int{1, 2, 3, 17, 63, 64} {
			checkRoot(t, a, k)
		}
	}
}

// Integers are of any size: there are roots of which half the bits are more than nat raises at once.
func TestRootPastAllShifts(t *testing.T) {
	a := api.Int{Abs: append(make([]uint64, 17000), 3)}
	a.Abs[5] = 1
	checkRoot(t, a, 1)
	checkRoot(t, a, 2)
}

func TestRootRefuses(t *testing.T) {
	for _, a := range edges() {
		for _, k := range []int{0, -1, 65, 66, math.MaxInt, math.MinInt} {
			if is, e := zint.Root(a, k); e != api.ErrArg || !isNought(is) {
				t.Errorf("Root(%v, %d): %v, %v", a, k, is, e)
			}
		}
		for _, k := range []int{1, 2, 3, 63, 64} {
			if value(a).Sign() >= 0 {
				checkRoot(t, a, k)
			} else if is, e := zint.Root(a, k); e != api.ErrArg || !isNought(is) {
				t.Errorf("Root(%v, %d): %v, %v", a, k, is, e)
			}
		}
	}
}
