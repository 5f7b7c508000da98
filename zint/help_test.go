package zint_test

import (
	"encoding/binary"
	"math/big"
	"math/rand/v2"
	"slices"
	"testing"

	"cleaver/api"
)

const most = ^uint64(0)

// value is an integer as the library has it; the tests hold answers against that.
func value(a api.Int) *big.Int {
	bytes := make([]byte, 8*len(a.Abs))
	for i, limb := range a.Abs {
		binary.BigEndian.PutUint64(bytes[len(bytes)-8*i-8:], limb)
	}
	v := new(big.Int).SetBytes(bytes)
	if a.Neg {
		v.Neg(v)
	}
	return v
}

// of is the plain integer of a value.
func of(v *big.Int) api.Int {
	a := api.Int{Neg: v.Sign() < 0}
	for left := new(big.Int).Abs(v); left.Sign() > 0; left.Rsh(left, 64) {
		a.Abs = append(a.Abs, new(big.Int).And(left, new(big.Int).SetUint64(most)).Uint64())
	}
	return a
}

// num is the plain integer of a text that the library reads, "0x" and "_" too.
func num(s string) api.Int {
	v, ok := new(big.Int).SetString(s, 0)
	if !ok {
		panic("no number: " + s)
	}
	return of(v)
}

// same tells that two integers stand there alike, limb by limb.
func same(a, b api.Int) bool { return a.Neg == b.Neg && slices.Equal(a.Abs, b.Abs) }

// isNought tells that it is the zero value, as all answers beside an error are.
func isNought(a api.Int) bool { return !a.Neg && len(a.Abs) == 0 }

// want fails, unless a is the plain integer of that value.
func want(t *testing.T, what string, a api.Int, v *big.Int) {
	t.Helper()
	if !same(a, of(v)) {
		t.Errorf("%s: %v, not %v", what, a, of(v))
	}
}

// edges are integers at which something turns, each with either sign, and also with noughts at the end.
func edges() []api.Int {
	var all []api.Int
	for _, abs := range [][]uint64{
		nil, {1}, {2}, {3}, {7}, {1 << 32}, {1<<63 - 1}, {1 << 63}, {1<<63 + 1}, {most - 1}, {most},
		{0, 1}, {1, 1}, {most, 1}, {0, 1 << 63}, {most, most}, {0, 0, 1}, {5, 0, most},
	} {
		for _, noughts := range []int{0, 1, 3} {
			list := slices.Concat(abs, make([]uint64, noughts))
			all = append(all, api.Int{Abs: list}, api.Int{Neg: true, Abs: list})
		}
	}
	return all
}

// maker makes integers, always the same ones.
type maker struct{ *rand.Rand }

func newMaker(seed uint64) maker { return maker{rand.New(rand.NewPCG(seed, 0))} }

// limb is one of all bits, or one near to where carries run far.
func (m maker) limb() uint64 {
	near := []uint64{0, 0, 1, most, most - 1, 1 << 63, 1<<63 - 1}
	if k := m.IntN(20); k < len(near) {
		return near[k]
	}
	return m.Uint64()
}

// some is an integer of n limbs with either sign, perhaps with noughts at the end.
func (m maker) some(n int) api.Int {
	a := api.Int{Neg: m.IntN(2) == 1, Abs: make([]uint64, n)}
	for i := range a.Abs {
		a.Abs[i] = m.limb()
	}
	return a
}

// pairs calls f with many pairs of integers: edges, ones of unlike and of like length, ones near to each other.
func pairs(f func(a, b api.Int)) {
	all := edges()
	for _, a := range all {
		for _, b := range all {
			f(a, b)
		}
	}
	m := newMaker(1)
	for range 2000 {
		f(m.some(m.IntN(9)), m.some(m.IntN(9)))
	}
	for range 300 {
		a := m.some(1 + m.IntN(9))
		near := of(new(big.Int).Add(value(a), big.NewInt(int64(m.IntN(5)-2))))
		f(a, near)
		f(near, api.Int{Neg: !a.Neg, Abs: a.Abs})
	}
}
