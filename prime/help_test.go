package prime_test

import (
	"math/big"
	"math/rand/v2"
	"slices"
	"testing"

	"cleaver/api"
)

const most = ^uint64(0)

// value is an integer as the library has it; the tests hold answers against that.
func value(a api.Int) *big.Int {
	words := make([]big.Word, len(a.Abs))
	for i, limb := range a.Abs {
		words[i] = big.Word(limb)
	}
	v := new(big.Int).SetBits(words)
	if a.Neg {
		v.Neg(v)
	}
	return v
}

// of is the plain integer of a value.
func of(v *big.Int) api.Int {
	a := api.Int{Neg: v.Sign() < 0, Abs: make([]uint64, len(v.Bits()))}
	for i, word := range v.Bits() {
		a.Abs[i] = uint64(word)
	}
	return a
}

// small is the plain integer of a number.
func small(n int) api.Int { return of(big.NewInt(int64(n))) }

// fraction is the plain fraction of a value.
func fraction(v *big.Rat) api.Rat { return api.Rat{Num: of(v.Num()), Den: of(v.Denom()).Abs} }

// same tells that two integers stand there alike, limb by limb.
func same(a, b api.Int) bool { return a.Neg == b.Neg && slices.Equal(a.Abs, b.Abs) }

// sameRat tells that two fractions stand there alike, limb by limb.
func sameRat(a, b api.Rat) bool { return same(a.Num, b.Num) && slices.Equal(a.Den, b.Den) }

// wantInt fails, unless a call answered the plain integer of that value, and no error.
func wantInt(t *testing.T, what string, a api.Int, e api.Errno, v *big.Int) {
	t.Helper()
	if e != api.OK || !same(a, of(v)) {
		t.Errorf("%s: %v, %v, not %v", what, a, e, of(v))
	}
}

// wantError fails, unless a call answered that error, and the zero value beside it.
func wantError(t *testing.T, what string, a api.Int, e, wanted api.Errno) {
	t.Helper()
	if e != wanted || !same(a, api.Int{}) {
		t.Errorf("%s: %v, %v, not %v", what, a, e, wanted)
	}
}

// amounts are naturals at which something turns, some with noughts at the end.
func amounts() [][]uint64 {
	return [][]uint64{
		nil, {0}, {0, 0}, {1}, {1, 0}, {2}, {3}, {4, 0, 0}, {5}, {6}, {101}, {1 << 32}, {1<<63 - 1}, {1 << 63}, {1<<63 + 1}, {most},
		{0, 1}, {1, 1, 0}, {most, most}, {0, 0, 1}, {5, 0, most},
	}
}

// edges are those, with either sign.
func edges() []api.Int {
	var all []api.Int
	for _, abs := range amounts() {
		all = append(all, api.Int{Abs: abs}, api.Int{Neg: true, Abs: abs})
	}
	return all
}

// maker makes integers, always the same ones.
type maker struct{ *rand.Rand }

func newMaker(seed uint64) maker { return maker{rand.New(rand.NewPCG(seed, 0))} }

// some is an integer of up to n limbs with either sign, perhaps with noughts at the end.
func (m maker) some(n int) api.Int {
	near := []uint64{0, 0, 1, 2, 3, most, 1 << 63}
	a := api.Int{Neg: m.IntN(2) == 1, Abs: make([]uint64, m.IntN(n+1))}
	for i := range a.Abs {
		a.Abs[i] = m.Uint64()
		if k := m.IntN(20); k < len(near) {
			a.Abs[i] = near[k]
		}
	}
	return a
}

// above is such an integer, which is not below 0, mostly above it.
func (m maker) above(n int) api.Int { return api.Int{Abs: append(m.some(n).Abs, m.Uint64())} }

// pairs calls f with many pairs of integers: edges, small ones, long ones.
func pairs(f func(a, b api.Int)) {
	all := edges()
	for _, a := range all {
		for _, b := range all {
			f(a, b)
		}
	}
	for a := -40; a <= 40; a++ {
		for b := -3; b <= 40; b++ {
			f(small(a), small(b))
		}
	}
	m := newMaker(1)
	for range 1000 {
		f(m.some(6), m.some(6))
		f(m.some(6), m.above(3))
	}
}
