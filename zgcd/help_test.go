package zgcd_test

import (
	"fmt"
	"math"
	"math/big"
	"math/rand/v2"
	"slices"
	"strings"
	"testing"

	"cleaver/api"
)

const most = ^uint64(0)

// value is an integer as the library has it; the tests hold answers against that.
func value(a api.Int) *big.Int {
	words := make([]big.Word, len(a.Abs))
	for i, limb := range a.Abs {
		words[i] = big.Word(limb)
	}
	v := new(big.Int).SetBits(words)
	if a.Neg {
		v.Neg(v)
	}
	return v
}

// of is the plain integer of a value.
func of(v *big.Int) api.Int {
	a := api.Int{Neg: v.Sign() < 0, Abs: make([]uint64, len(v.Bits()))}
	for i, word := range v.Bits() {
		a.Abs[i] = uint64(word)
	}
	return a
}

// small is the plain integer of a number.
func small(n int) api.Int { return of(big.NewInt(int64(n))) }

// num is the plain integer of a text that the library reads, "0x" and "_" too.
func num(s string) api.Int {
	v, ok := new(big.Int).SetString(s, 0)
	if !ok {
		panic("no number: " + s)
	}
	return of(v)
}

// sameInt tells that two integers stand there alike, limb by limb.
func sameInt(a, b api.Int) bool { return a.Neg == b.Neg && slices.Equal(a.Abs, b.Abs) }

// same tells that two polynomials stand there alike, limb by limb.
func same(a, b []api.Int) bool { return slices.EqualFunc(a, b, sameInt) }

// poly is the list of numbers, noughts at the end and all.
func poly(l ...int) []api.Int {
	a := make([]api.Int, len(l))
	for i, n := range l {
		a[i] = small(n)
	}
	return a
}

// power is x to the power of n.
func power(n int) []api.Int { return append(make([]api.Int, n), small(1)) }

// What the tests hold answers against: lists of the library's numbers, gone through by hand.

func values(a []api.Int) []*big.Int {
	z := make([]*big.Int, len(a))
	for i, c := range a {
		z[i] = value(c)
	}
	return z
}

// plain is the plain polynomial of such a list.
func plain(l []*big.Int) []api.Int {
	z, end := make([]api.Int, len(l)), 0
	for i, v := range l {
		z[i] = of(v)
		if v.Sign() != 0 {
			end = i + 1
		}
	}
	return z[:end]
}

// norm is a polynomial, plain.
func norm(a []api.Int) []api.Int { return plain(values(a)) }

// noughts is a list of so many noughts, to be added to where they stand.
func noughts(n int) []*big.Int {
	z := make([]*big.Int, n)
	for i := range z {
		z[i] = new(big.Int)
	}
	return z
}

// plusTimes is the polynomial of a and so many times b.
func plusTimes(a []api.Int, n int64, b []api.Int) []api.Int {
	z := noughts(max(len(a), len(b)))
	for i, v := range values(a) {
		z[i].Add(z[i], v)
	}
	for i, v := range values(b) {
		z[i].Add(z[i], v.Mul(v, big.NewInt(n)))
	}
	return plain(z)
}

// times is the product of some.
func times(factors ...[]api.Int) []api.Int {
	product := poly(1)
	for _, f := range factors {
		z, y := noughts(len(product)+len(f)), values(f)
		for i, v := range values(product) {
			for j, w := range y {
				z[i+j].Add(z[i+j], new(big.Int).Mul(v, w))
			}
		}
		product = plain(z)
	}
	return product
}

// fractions are the coefficients of a polynomial, those at the end that are 0 left out.
func fractions(a []api.Int) []*big.Rat {
	z := make([]*big.Rat, len(norm(a)))
	for i := range z {
		z[i] = new(big.Rat).SetInt(value(a[i]))
	}
	return z
}

// rest is what is left of a by b over the fractions, without noughts at the end; b has none there, and is not empty.
func rest(a, b []*big.Rat) []*big.Rat {
	left := make([]*big.Rat, len(a))
	for i, v := range a {
		left[i] = new(big.Rat).Set(v)
	}
	for ; len(left) >= len(b); left = left[:len(left)-1] {
		q := new(big.Rat).Quo(left[len(left)-1], b[len(b)-1])
		for i, v := range b {
			at := left[len(left)-len(b)+i]
			at.Sub(at, new(big.Rat).Mul(q, v))
		}
	}
	for len(left) > 0 && left[len(left)-1].Sign() == 0 {
		left = left[:len(left)-1]
	}
	return left
}

// primitive is the primitive polynomial that is some number times one over the fractions.
func primitive(a []*big.Rat) []api.Int {
	raised, shared := big.NewInt(1), new(big.Int)
	for _, v := range a {
		raised.Mul(raised, v.Denom())
	}
	whole := make([]*big.Int, len(a))
	for i, v := range a {
		whole[i] = new(big.Int).Mul(v.Num(), new(big.Int).Quo(raised, v.Denom()))
		shared.GCD(nil, nil, shared, new(big.Int).Abs(whole[i]))
	}
	if len(a) > 0 && a[len(a)-1].Sign() < 0 {
		shared.Neg(shared)
	}
	for _, v := range whole {
		v.Quo(v, shared)
	}
	return plain(whole)
}

// content is the greatest common divisor of all coefficients.
func content(a []api.Int) *big.Int {
	g := new(big.Int)
	for _, v := range values(a) {
		g.GCD(nil, nil, g, v.Abs(v))
	}
	return g
}

// divisor is the greatest common divisor, by Euclid's way over the fractions.
func divisor(a, b []api.Int) []api.Int {
	x, y := fractions(a), fractions(b)
	for len(y) > 0 {
		x, y = y, rest(x, y)
		for _, v := range y { // so that they stay short
			v.Quo(v, new(big.Rat).Set(y[len(y)-1]))
		}
	}
	contents := new(big.Int).GCD(nil, nil, content(a), content(b))
	return times(primitive(x), []api.Int{of(contents)})
}

// divides: is a some polynomial of integers times b, which is not nought?
func divides(b, a []api.Int) bool {
	left, by := values(norm(a)), values(norm(b))
	for ; len(left) >= len(by); left = left[:len(left)-1] {
		q, r := new(big.Int).QuoRem(left[len(left)-1], by[len(by)-1], new(big.Int))
		if r.Sign() != 0 {
			return false
		}
		for i, v := range by {
			at := left[len(left)-len(by)+i]
			at.Sub(at, new(big.Int).Mul(q, v))
		}
	}
	return len(plain(left)) == 0
}

// want fails, unless a call answered that polynomial, limb by limb.
func want(t *testing.T, what string, a, wanted []api.Int) {
	t.Helper()
	if !same(a, wanted) {
		t.Fatalf("%s: %s, not %s", what, text(a), text(wanted))
	}
}

// wantInt fails, unless a call answered the plain integer of that value.
func wantInt(t *testing.T, what string, a api.Int, v *big.Int) {
	t.Helper()
	if !sameInt(a, of(v)) {
		t.Fatalf("%s: %v, not %v", what, text([]api.Int{a}), v)
	}
}

// text tells a polynomial's numbers; those that are not plain stand there limb by limb.
func text(a []api.Int) string {
	var all []string
	for _, c := range a {
		if v := value(c); sameInt(c, of(v)) {
			all = append(all, v.String())
		} else {
			all = append(all, fmt.Sprint(c))
		}
	}
	return "[" + strings.Join(all, " ") + "]"
}

// said tells what was handed to a call.
func said(name string, handed ...[]api.Int) string {
	for _, h := range handed {
		name += " " + text(h)
	}
	return name
}

// numbers are integers at which something turns, some of them not plain.
func numbers() []api.Int {
	return []api.Int{
		{}, {Neg: true}, {Abs: []uint64{0}}, {Neg: true, Abs: []uint64{0, 0}}, small(1), small(-1), {Abs: []uint64{1, 0}}, {Neg: true, Abs: []uint64{1, 0, 0}},
		small(2), small(-3), small(6), {Neg: true, Abs: []uint64{4, 0}}, small(math.MaxInt), small(math.MinInt), {Abs: []uint64{1 << 63}}, {Abs: []uint64{most}}, {Neg: true, Abs: []uint64{most}},
		{Abs: []uint64{0, 1}}, {Neg: true, Abs: []uint64{0, 1}}, {Neg: true, Abs: []uint64{1, 1, 0}}, {Abs: []uint64{most, most}}, {Neg: true, Abs: []uint64{5, 0, most}},
	}
}

// maker makes polynomials, always the same ones.
type maker struct{ *rand.Rand }

func newMaker(seed uint64) maker { return maker{rand.New(rand.NewPCG(seed, 0))} }

// number is any integer of up to three limbs, often a small one, or one at which something turns.
func (m maker) number() api.Int {
	switch m.IntN(5) {
	case 0:
		list := numbers()
		return list[m.IntN(len(list))]
	case 1:
		a := api.Int{Neg: m.IntN(2) == 1, Abs: make([]uint64, m.IntN(4))}
		for i := range a.Abs {
			a.Abs[i] = m.Uint64()
		}
		return a
	}
	return small(m.IntN(25) - 12)
}

// some is a polynomial of up to n coefficients, perhaps with noughts at the end.
func (m maker) some(n int) []api.Int {
	a := make([]api.Int, m.IntN(n+1))
	for i := range a {
		a[i] = m.number()
	}
	return a
}

// unlike is such a polynomial that is not nought.
func (m maker) unlike(n int) []api.Int {
	last := small(1 + m.IntN(9))
	last.Neg = m.IntN(2) == 1
	return append(m.some(n-1), last)
}

// sparse is a polynomial of up to n coefficients of which most are 0, so that sequences leave out degrees.
func (m maker) sparse(n int) []api.Int {
	a := make([]api.Int, n)
	for range 3 {
		a[m.IntN(n)] = small(m.IntN(9) - 4)
	}
	return a
}

// long is a polynomial of n coefficients of so many bits.
func (m maker) long(n, bits int) []api.Int {
	a := make([]*big.Int, n)
	for i := range a {
		a[i] = new(big.Int).SetUint64(m.Uint64() | 1)
		for a[i].BitLen() < bits {
			a[i].Lsh(a[i], 64).Or(a[i], new(big.Int).SetUint64(m.Uint64()))
		}
		a[i].Rsh(a[i], uint(a[i].BitLen()-bits))
		if m.IntN(2) == 1 {
			a[i].Neg(a[i])
		}
	}
	return plain(a)
}

// all are all lists of up to n numbers from -high to high, those with noughts at the end among them.
func all(n, high int) [][]api.Int {
	lists := [][]api.Int{nil}
	for from := 0; n > 0; n-- {
		end := len(lists)
		for _, l := range lists[from:end] {
			for c := -high; c <= high; c++ {
				lists = append(lists, append(slices.Clone(l), small(c)))
			}
		}
		from = end
	}
	return lists
}

// edges are polynomials at which something turns, few of them plain.
func edges() [][]api.Int {
	list := [][]api.Int{
		nil, {}, poly(0, 0), {{Neg: true}, {Neg: true, Abs: []uint64{0, 0}}}, poly(0, 1), poly(0, 0, -2, 0), poly(1, 1), poly(-1, 1), poly(1, -1, 0, 0), poly(-1, 0, 1),
		poly(4, -6), poly(6, 9, 3), poly(0, -6, 0, 4), poly(2, 0, 2, 0), {{Abs: []uint64{0, 1}}, {}, {Neg: true, Abs: []uint64{0, 1}}},
		{{Neg: true, Abs: []uint64{6, 0}}, {Abs: []uint64{0, 0}}, {Abs: []uint64{9, 0}}, {Neg: true, Abs: []uint64{0}}}, {{Abs: []uint64{most, most}}, {Neg: true, Abs: []uint64{most, most}}, {}},
	}
	for _, c := range numbers() {
		list = append(list, []api.Int{c}, []api.Int{c, small(1)}, []api.Int{small(3), c})
	}
	return list
}

// pairs calls f with many pairs of polynomials: all small ones, edges, long ones, ones with gaps, ones with a common divisor.
func pairs(f func(a, b []api.Int)) {
	for _, lists := range [][][]api.Int{all(2, 2), all(3, 1), edges()} {
		for _, a := range lists {
			for _, b := range lists {
				f(a, b)
			}
		}
	}
	m := newMaker(1)
	for range 500 {
		a, b, c := m.some(7), m.some(7), m.unlike(4)
		f(a, b)
		f(times(a, b), b)
		f(times(a, c), times(b, c))
		f(m.sparse(9), m.sparse(9))
		f(times(m.sparse(7), m.sparse(4)), m.sparse(8))
	}
	for range 10 {
		f(m.some(20), m.some(20))
		f(m.unlike(20), m.unlike(4))
	}
}
