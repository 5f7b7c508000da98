package fpoly_test

import (
	"math"
	"math/big"
	"slices"
	"testing"

	"cleaver/api"
	"cleaver/fpoly"
)

// P6.3

const most = ^uint64(0)

// number is the integer of a number.
func number(n int) api.Int { return of(big.NewInt(int64(n))) }

// of is the integer of a value.
func of(v *big.Int) api.Int {
	a := api.Int{Neg: v.Sign() < 0}
	for _, word := range v.Bits() {
		a.Abs = append(a.Abs, uint64(word))
	}
	return a
}

// value is an integer as the library has it.
func value(a api.Int) *big.Int {
	v := new(big.Int)
	for _, limb := range slices.Backward(a.Abs) {
		v.Or(v.Lsh(v, 64), new(big.Int).SetUint64(limb))
	}
	if a.Neg {
		v.Neg(v)
	}
	return v
}

// rest is that by hand.
func rest(a, m []int, p int) []int {
	_, r := long(a, m, p)
	return r
}

// power goes from the lowest bit of n to the highest one, by hand.
func power(a []int, n *big.Int, m []int, p int) []int {
	z, square := rest([]int{1}, m, p), rest(a, m, p)
	for i := range n.BitLen() {
		if n.Bit(i) == 1 {
			z = rest(times(z, square, p), m, p)
		}
		square = rest(times(square, square, p), m, p)
	}
	return z
}

// Powers are made one by one: each is the one ahead times a.
func TestPowMod(t *testing.T) {
	pairs(func(a, m []int, p int) {
		if len(norm(m, p)) == 0 {
			return
		}
		wanted := rest([]int{1}, m, p)
		for n := range 12 {
			is, e := fpoly.PowMod(a, number(n), m, p)
			want(t, said("PowMod", p, a, n, m), is, e, wanted)
			wanted = rest(times(wanted, a, p), m, p)
		}
	})
}

func TestPowModOfSome(t *testing.T) {
	for _, c := range []struct {
		a    []int
		n    int
		m    []int
		p    int
		rest []int
	}{
		{[]int{0, 1}, 7, []int{1, 0, 1}, 7, []int{0, 6}}, {[]int{0, 1}, 49, []int{1, 0, 1}, 7, []int{0, 1}}, {[]int{0, 1}, 48, []int{1, 0, 1}, 7, []int{1}},
		{nil, 0, []int{1, 0, 1}, 7, []int{1}}, {nil, 5, []int{1, 0, 1}, 7, nil}, {[]int{0, 1}, 3, []int{0, 0, 1}, 7, nil}, {[]int{0, 1}, 0, []int{0, 0, 1}, 7, []int{1}},
		{[]int{5}, 0, []int{3}, 7, nil}, {[]int{5, 1}, 3, []int{3}, 7, nil}, {[]int{3}, math.MaxInt, []int{0, 1}, 7, []int{3}},
		{[]int{0, 0, 0, 1}, 1, []int{1, 0, 1}, 7, []int{0, 6}}, {[]int{1, 1}, 2, []int{0, 0, 0, 1}, 2, []int{1, 0, 1}},
	} {
		is, e := fpoly.PowMod(c.a, number(c.n), c.m, c.p)
		want(t, said("PowMod", c.p, c.a, c.n, c.m), is, e, c.rest)
	}
}

// exponents are long ones: where limbs and bits turn, and any.
func exponents(m maker) []api.Int {
	list := []api.Int{
		{Abs: []uint64{most}}, {Abs: []uint64{0, 1}}, {Abs: []uint64{1, 1}}, {Abs: []uint64{1 << 63}}, {Abs: []uint64{1<<63 - 1}}, {Abs: []uint64{most, most}}, {Abs: []uint64{0, 0, 1}},
		{Abs: []uint64{5, 0, 1 << 63}}, {Abs: []uint64{6, 1, 0, 0}}, {Abs: []uint64{7, 0}},
	}
	for range 4 {
		list = append(list, api.Int{Abs: []uint64{m.Uint64(), m.Uint64(), m.Uint64() >> m.IntN(64)}})
	}
	return list
}

func TestPowModOfLong(t *testing.T) {
	m := newMaker(3)
	for _, p := range primes() {
		for _, n := range exponents(m) {
			a, by := m.some(7, p), m.unlike(5, p)
			is, e := fpoly.PowMod(a, n, by, p)
			want(t, said("PowMod", p, a, n, by), is, e, power(a, value(n), by, p))
		}
	}
}

// By x^2 - x - 1 the powers of x tell Fibonacci's numbers; by x - c a power's rest is that of c.
func TestPowModTellsNumbers(t *testing.T) {
	for _, p := range primes() {
		before, after := 0, 1
		for n := 1; n < 200; n++ {
			is, e := fpoly.PowMod([]int{0, 1}, number(n), []int{-1, -1, 1}, p)
			want(t, said("PowMod", p, n), is, e, norm([]int{before, after}, p))
			before, after = after, (before+after)%p
		}
		great := new(big.Int).Exp(big.NewInt(3), big.NewInt(2000), nil)
		wanted := new(big.Int).Exp(big.NewInt(5), great, big.NewInt(int64(p)))
		is, e := fpoly.PowMod([]int{0, 1}, of(great), []int{-5, 1}, p)
		want(t, said("PowMod", p), is, e, norm([]int{int(wanted.Int64())}, p))
	}
}

// An exponent without an amount is 0, whatever its sign and its noughts.
func TestPowModOfNoExponent(t *testing.T) {
	for _, n := range []api.Int{{}, {Neg: true}, {Abs: []uint64{0}}, {Neg: true, Abs: []uint64{0, 0}}} {
		for _, a := range edges(7) {
			is, e := fpoly.PowMod(a, n, []int{3, 0, 2}, 7)
			want(t, said("PowMod", 7, a, n), is, e, []int{1})
			is, e = fpoly.PowMod(a, n, []int{3}, 7)
			want(t, said("PowMod", 7, a, n), is, e, nil)
		}
	}
}

// An exponent below 0 comes ahead of a division by nought.
func TestPowModRefuses(t *testing.T) {
	for _, p := range primes() {
		for _, a := range edges(p) {
			for _, m := range edges(p) {
				for _, n := range []api.Int{number(-1), number(math.MinInt), {Neg: true, Abs: []uint64{0, 1}}, {Neg: true, Abs: []uint64{3, 0}}} {
					is, e := fpoly.PowMod(a, n, m, p)
					wantError(t, said("PowMod", p, a, n, m), e, api.ErrArg, is)
				}
			}
			for _, nought := range [][]int{nil, {}, {0}, {p}, {0, -p, math.MinInt / p * p}} {
				for _, n := range []api.Int{{}, {Neg: true}, number(1), {Abs: []uint64{most, most}}} {
					is, e := fpoly.PowMod(a, n, nought, p)
					wantError(t, said("PowMod", p, a, n, nought), e, api.ErrZero, is)
				}
			}
		}
	}
}
