package rat_test

import (
	"math/big"
	"math/rand/v2"
	"slices"
	"testing"

	"cleaver/api"
)

const most = ^uint64(0)

// natural is a natural as the library has it.
func natural(limbs []uint64) *big.Int {
	words := make([]big.Word, len(limbs))
	for i, limb := range limbs {
		words[i] = big.Word(limb)
	}
	return new(big.Int).SetBits(words)
}

// integer is an integer as the library has it.
func integer(a api.Int) *big.Int {
	if a.Neg {
		return new(big.Int).Neg(natural(a.Abs))
	}
	return natural(a.Abs)
}

// value is a fraction as the library has it; the tests hold answers against that.
func value(a api.Rat) *big.Rat {
	den := natural(a.Den)
	if den.Sign() == 0 {
		return new(big.Rat)
	}
	return new(big.Rat).SetFrac(integer(a.Num), den)
}

// limbs are the limbs of a value's amount.
func limbs(v *big.Int) []uint64 {
	list := make([]uint64, len(v.Bits()))
	for i, word := range v.Bits() {
		list[i] = uint64(word)
	}
	return list
}

// whole is the plain integer of a value.
func whole(v *big.Int) api.Int { return api.Int{Neg: v.Sign() < 0, Abs: limbs(v)} }

// of is the plain fraction of a value.
func of(v *big.Rat) api.Rat { return api.Rat{Num: whole(v.Num()), Den: limbs(v.Denom())} }

// frac is the plain fraction of a text that the library reads.
func frac(s string) api.Rat {
	v, ok := new(big.Rat).SetString(s)
	if !ok {
		panic("no fraction: " + s)
	}
	return of(v)
}

// sameInt tells that two integers stand there alike, limb by limb.
func sameInt(a, b api.Int) bool { return a.Neg == b.Neg && slices.Equal(a.Abs, b.Abs) }

// same tells that two fractions stand there alike, limb by limb.
func same(a, b api.Rat) bool { return sameInt(a.Num, b.Num) && slices.Equal(a.Den, b.Den) }

// isZeroValue tells that it is what stands beside an error, which is no plain 0.
func isZeroValue(a api.Rat) bool { return same(a, api.Rat{}) }

// want fails, unless a is the plain fraction of that value.
func want(t *testing.T, what string, a api.Rat, v *big.Rat) {
	t.Helper()
	if !same(a, of(v)) {
		t.Errorf("%s: %v, not %v", what, a, of(v))
	}
}

// edges are fractions at which something turns: whole ones, ones that are not plain, ones without a lower number.
func edges() []api.Rat {
	uppers := []api.Int{
		{}, {Neg: true}, {Neg: true, Abs: []uint64{0, 0}},
		{Abs: []uint64{1}}, {Neg: true, Abs: []uint64{1, 0}}, {Abs: []uint64{6}}, {Neg: true, Abs: []uint64{12}},
		{Abs: []uint64{1 << 63}}, {Neg: true, Abs: []uint64{most}}, {Abs: []uint64{0, 1, 0}}, {Neg: true, Abs: []uint64{5, 0, most}},
	}
	lowers := [][]uint64{
		nil, {0}, {0, 0}, {1}, {1, 0, 0}, {2}, {3, 0}, {4}, {18}, {1 << 63}, {most}, {0, 1}, {0, 0, 1, 0}, {most, most},
	}
	var all []api.Rat
	for _, num := range uppers {
		for _, den := range lowers {
			all = append(all, api.Rat{Num: num, Den: den})
		}
	}
	return all
}

// maker makes fractions, always the same ones.
type maker struct{ *rand.Rand }

func newMaker(seed uint64) maker { return maker{rand.New(rand.NewPCG(seed, 0))} }

// list is n limbs, of all bits, or small ones, or ones near to where carries run far.
func (m maker) list(n int) []uint64 {
	near := []uint64{0, 0, 1, 2, 3, 6, most, 1 << 63}
	list := make([]uint64, n)
	for i := range list {
		list[i] = m.Uint64()
		if k := m.IntN(20); k < len(near) {
			list[i] = near[k]
		}
	}
	return list
}

// integer is an integer of n limbs with either sign, perhaps with noughts at the end.
func (m maker) integer(n int) api.Int { return api.Int{Neg: m.IntN(2) == 1, Abs: m.list(n)} }

// some is a fraction of numbers of up to n limbs, often not plain.
func (m maker) some(n int) api.Rat {
	return api.Rat{Num: m.integer(m.IntN(n + 1)), Den: m.list(m.IntN(n + 1))}
}

// small is a fraction of small numbers, often not plain; so two of them often have something in common.
func (m maker) small() api.Rat {
	return api.Rat{Num: whole(big.NewInt(m.Int64N(61) - 30)), Den: []uint64{m.Uint64N(31)}}
}

// raised is the same fraction with both numbers c times as great.
func raised(a api.Rat, c uint64) api.Rat {
	by := new(big.Int).SetUint64(c)
	num, den := integer(a.Num), natural(a.Den)
	return api.Rat{Num: whole(num.Mul(num, by)), Den: limbs(den.Mul(den, by))}
}

// pairs calls f with many pairs of fractions: edges, small ones, long ones, ones of one lower number, ones near to each other.
func pairs(f func(a, b api.Rat)) {
	all := edges()
	for _, a := range all {
		for _, b := range all {
			f(a, b)
		}
	}
	m := newMaker(1)
	for range 3000 {
		f(m.small(), m.small())
	}
	for range 1000 {
		a, b := m.some(6), m.some(6)
		f(a, b)
		f(a, api.Rat{Num: b.Num, Den: a.Den})
		f(a, raised(a, 12))
		f(a, of(new(big.Rat).Add(value(a), big.NewRat(m.Int64N(3)-1, 1<<62))))
	}
}
