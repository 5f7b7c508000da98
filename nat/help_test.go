package nat_test

import (
	"math/big"
	"slices"
	"testing"

	"cleaver/nat"
)

const most = ^uint64(0)

// value is a natural as the library has it; the tests hold answers against that.
func value(a []uint64) *big.Int {
	sum := new(big.Int)
	for i := len(a) - 1; i >= 0; i-- {
		sum.Lsh(sum, 64)
		sum.Or(sum, new(big.Int).SetUint64(a[i]))
	}
	return sum
}

func isPlain(a []uint64) bool { return len(a) == 0 || a[len(a)-1] != 0 }

// want fails, unless a is plain and has that value.
func want(t *testing.T, what string, a []uint64, v *big.Int) {
	t.Helper()
	if !isPlain(a) {
		t.Errorf("%s: not plain: %x", what, a)
	}
	if value(a).Cmp(v) != 0 {
		t.Errorf("%s: %x, not %x", what, value(a), v)
	}
}

// maker makes limbs, always the same ones: from all bits, and from the ends, where carries run far.
type maker uint64

func (m *maker) bits() uint64 {
	x := uint64(*m)
	x ^= x << 13
	x ^= x >> 7
	x ^= x << 17
	*m = maker(x)
	return x
}

func (m *maker) limb() uint64 {
	edges := []uint64{0, 0, 1, 2, most, most, most - 1, 1 << 63, 1<<63 - 1, 1 << 32, 1<<32 - 1}
	if k := m.bits() >> 40 % 20; k < uint64(len(edges)) {
		return edges[k]
	}
	return m.bits()
}

// some is a natural of n limbs, perhaps with noughts at the end.
func (m *maker) some(n int) []uint64 {
	a := make([]uint64, n)
	for i := range a {
		a[i] = m.limb()
	}
	return a
}

// pairs calls f with many pairs of naturals: small ones, ones with noughts at the end,
// ones near to each other, and ones great enough to be parted in halves.
func pairs(f func(a, b []uint64)) {
	small := [][]uint64{nil, {}, {0}, {0, 0}, {1}, {1, 0}, {2}, {most}, {most, 0, 0}, {0, 1}, {1, 1}, {most, most}, {0, 0, 1}, {0, 1 << 63}}
	for _, a := range small {
		for _, b := range small {
			f(a, b)
		}
	}
	m := maker(1)
	for range 3000 {
		f(m.some(int(m.bits()%9)), m.some(int(m.bits()%9)))
	}
	for range 200 {
		a := m.some(1 + int(m.bits()%9))
		f(a, a)
		f(a, nat.Add(a, []uint64{1}))
		f(nat.Add(a, []uint64{1}), a)
	}
	sizes := []int{1, 30, 63, 64, 65, 127, 128, 129, 200, 333}
	for _, n := range sizes {
		for _, k := range sizes {
			f(m.some(n), m.some(k))
			f(slices.Repeat([]uint64{most}, n), slices.Repeat([]uint64{most}, k))
		}
	}
	gap := append(make([]uint64, 150), 1)
	f(gap, gap)
	f(gap, slices.Repeat([]uint64{most}, 160))
}
