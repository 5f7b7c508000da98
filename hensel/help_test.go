package hensel_test

import (
	"fmt"
	"math/big"
	"math/rand/v2"
	"slices"
	"strings"
	"testing"

	"cleaver/api"
	"cleaver/hensel"
)

const most = ^uint64(0)

// value is an integer as the library has it; the tests hold answers against that.
func value(a api.Int) *big.Int {
	words := make([]big.Word, len(a.Abs))
	for i, limb := range a.Abs {
		words[i] = big.Word(limb)
	}
	v := new(big.Int).SetBits(words)
	if a.Neg {
		v.Neg(v)
	}
	return v
}

// of is the plain integer of a value.
func of(v *big.Int) api.Int {
	a := api.Int{Neg: v.Sign() < 0, Abs: make([]uint64, len(v.Bits()))}
	for i, word := range v.Bits() {
		a.Abs[i] = uint64(word)
	}
	return a
}

// small is the plain integer of a number.
func small(n int) api.Int { return of(big.NewInt(int64(n))) }

// num is the plain integer of a text that the library reads, "0x" and "_" too.
func num(s string) api.Int {
	v, ok := new(big.Int).SetString(s, 0)
	if !ok {
		panic("no number: " + s)
	}
	return of(v)
}

// sameInt tells that two integers stand there alike, limb by limb.
func sameInt(a, b api.Int) bool { return a.Neg == b.Neg && slices.Equal(a.Abs, b.Abs) }

// same tells that two polynomials stand there alike, limb by limb.
func same(a, b []api.Int) bool { return slices.EqualFunc(a, b, sameInt) }

// alike: are the lists the same?
func alike(a, b [][]api.Int) bool { return slices.EqualFunc(a, b, same) }

// poly is the list of numbers, noughts at the end and all.
func poly(l ...int) []api.Int {
	a := make([]api.Int, len(l))
	for i, n := range l {
		a[i] = small(n)
	}
	return a
}

// lifts are polynomials of numbers.
func lifts(l [][]int) [][]api.Int {
	var all [][]api.Int
	for _, f := range l {
		all = append(all, poly(f...))
	}
	return all
}

// What the tests hold answers against: lists of the library's numbers, gone through by hand.

func values(a []api.Int) []*big.Int {
	z := make([]*big.Int, len(a))
	for i, c := range a {
		z[i] = value(c)
	}
	return z
}

// plain is the plain polynomial of such a list.
func plain(l []*big.Int) []api.Int {
	z, end := make([]api.Int, len(l)), 0
	for i, v := range l {
		z[i] = of(v)
		if v.Sign() != 0 {
			end = i + 1
		}
	}
	return z[:end]
}

// norm is a polynomial, plain.
func norm(a []api.Int) []api.Int { return plain(values(a)) }

// noughts is a list of so many noughts, to be added to where they stand.
func noughts(n int) []*big.Int {
	z := make([]*big.Int, n)
	for i := range z {
		z[i] = new(big.Int)
	}
	return z
}

// by are the rests of a polynomial's coefficients by m, without noughts at the end.
func by(a []api.Int, m *big.Int) []api.Int {
	l := values(a)
	for _, v := range l {
		v.Mod(v, m)
	}
	return plain(l)
}

// intsBy are the rests by p as ints.
func intsBy(a []api.Int, p int) []int {
	var l []int
	for _, v := range values(by(a, big.NewInt(int64(p)))) {
		l = append(l, int(v.Int64()))
	}
	return l
}

// plus is the sum of a and so many times b.
func plus(a []api.Int, n *big.Int, b []api.Int) []api.Int {
	z := noughts(max(len(a), len(b)))
	for i, v := range values(a) {
		z[i].Add(z[i], v)
	}
	for i, v := range values(b) {
		z[i].Add(z[i], v.Mul(v, n))
	}
	return plain(z)
}

// times is the product of some.
func times(factors ...[]api.Int) []api.Int {
	product := poly(1)
	for _, f := range factors {
		z, y := noughts(len(product)+len(f)), values(f)
		for i, v := range values(product) {
			for j, w := range y {
				z[i+j].Add(z[i+j], new(big.Int).Mul(v, w))
			}
		}
		product = plain(z)
	}
	return product
}

// powerOf is a power, by the library.
func powerOf(p, k int) *big.Int {
	return new(big.Int).Exp(big.NewInt(int64(p)), big.NewInt(int64(k)), nil)
}

// monicBy is a polynomial by its last coefficient, by m.
func monicBy(a []api.Int, m *big.Int) []api.Int {
	last := value(a[len(a)-1])
	return by(times(a, []api.Int{of(last.ModInverse(last, m))}), m)
}

// restOf is the rest by p of a list of ints that is divided by a monic one, noughts at the end left out.
func restOf(a, b []int, p int) []int {
	left := slices.Clone(a)
	for top := len(left) - 1; top >= len(b)-1; top-- {
		q := left[top] % p
		for i, c := range b {
			left[top-len(b)+1+i] -= q * c % p
		}
	}
	for i, c := range left {
		left[i] = (c%p + p) % p
	}
	for len(left) > 0 && left[len(left)-1] == 0 {
		left = left[:len(left)-1]
	}
	return left
}

// areApart: have two monic polynomials no common divisor by p but 1? By Euclid's way, each rest made monic.
func areApart(a, b []int, p int) bool {
	for len(b) > 0 {
		a, b = b, intsMonic(restOf(a, b, p), p)
	}
	return len(a) == 1
}

func intsMonic(a []int, p int) []int {
	if len(a) == 0 {
		return a
	}
	return intsBy(monicBy(poly(a...), big.NewInt(int64(p))), p)
}

// areAllApart: have no two of some a common divisor by p but 1?
func areAllApart(l [][]int, p int) bool {
	for i, a := range l {
		for _, b := range l[:i] {
			if !areApart(a, b, p) {
				return false
			}
		}
	}
	return true
}

// moduli are numbers to divide by, primes and others, where something turns; the last ones are not plain.
func moduli() []api.Int {
	return []api.Int{
		small(1), small(2), small(3), small(4), small(5), small(6), small(7), small(25), small(1024), small(65521), num("0x7fffffffffffffff"), num("0x8000000000000000"), num("0xffffffffffffffff"),
		num("0x1_0000000000000000"), num("0x1_0000000000000001"), num("0xffffffffffffffff_ffffffffffffffff"), of(powerOf(65521, 30)), {Abs: []uint64{5, 0, 0}}, {Abs: []uint64{0, 3, 0}}, {Abs: []uint64{1, 0}},
	}
}

// noModuli are numbers by which there are no rests.
func noModuli() []api.Int {
	return []api.Int{{}, {Neg: true}, {Abs: []uint64{0}}, {Neg: true, Abs: []uint64{0, 0}}, small(-1), small(-2), small(-5), {Neg: true, Abs: []uint64{5, 0}}, {Neg: true, Abs: []uint64{0, 1}}, {Neg: true, Abs: []uint64{most, most, most}}}
}

// numbers are integers at which something turns, some of them not plain.
func numbers() []api.Int {
	return []api.Int{
		{}, {Neg: true}, {Abs: []uint64{0}}, {Neg: true, Abs: []uint64{0, 0}}, small(1), small(-1), {Abs: []uint64{1, 0}}, {Neg: true, Abs: []uint64{1, 0, 0}},
		small(2), small(-3), small(6), {Neg: true, Abs: []uint64{4, 0}}, small(65521), small(-65521), {Abs: []uint64{1 << 63}}, {Abs: []uint64{most}}, {Neg: true, Abs: []uint64{most}},
		{Abs: []uint64{0, 1}}, {Neg: true, Abs: []uint64{0, 1}}, {Neg: true, Abs: []uint64{1, 1, 0}}, {Abs: []uint64{most, most}}, {Neg: true, Abs: []uint64{5, 0, most}},
	}
}

// maker makes polynomials, always the same ones.
type maker struct{ *rand.Rand }

func newMaker(seed uint64) maker { return maker{rand.New(rand.NewPCG(seed, 0))} }

// number is any integer of up to three limbs, often a small one, or one at which something turns.
func (m maker) number() api.Int {
	switch m.IntN(4) {
	case 0:
		list := numbers()
		return list[m.IntN(len(list))]
	case 1:
		a := api.Int{Neg: m.IntN(2) == 1, Abs: make([]uint64, m.IntN(4))}
		for i := range a.Abs {
			a.Abs[i] = m.Uint64()
		}
		return a
	}
	return small(m.IntN(25) - 12)
}

// some is a polynomial of up to n coefficients, perhaps with noughts at the end.
func (m maker) some(n int) []api.Int {
	a := make([]api.Int, m.IntN(n+1))
	for i := range a {
		a[i] = m.number()
	}
	return a
}

// great is an integer of up to so many bits, of any sign.
func (m maker) great(bits int) *big.Int {
	v := new(big.Int)
	for range bits/64 + 1 {
		v.Lsh(v, 64).Or(v, new(big.Int).SetUint64(m.Uint64()))
	}
	v.Rsh(v, uint(64-bits%64))
	if m.IntN(2) == 1 {
		v.Neg(v)
	}
	return v
}

// of is a polynomial of a degree, of numbers of so many bits, whose last coefficient p does not divide.
func (m maker) of(degree, bits, p int) []api.Int {
	z := make([]api.Int, degree+1)
	for i := range z {
		z[i] = of(m.great(bits))
	}
	for intsBy(z[degree:], p) == nil {
		z[degree] = of(m.great(max(bits, 8)))
	}
	return z
}

// unplain is a polynomial whose coefficients have noughts behind them, perhaps with some noughts at the end.
func (m maker) unplain(a []api.Int) []api.Int {
	z := append(slices.Clone(a), []api.Int{{}, {Neg: true}, {Abs: []uint64{0, 0}}, {Neg: true, Abs: []uint64{0}}}[:m.IntN(5)]...)
	for i, c := range z {
		z[i] = api.Int{Neg: c.Neg || len(c.Abs) == 0 && m.IntN(2) == 1, Abs: append(slices.Clone(c.Abs), make([]uint64, m.IntN(3))...)}
	}
	return z
}

// all are all lists of up to n numbers from low to high, those with noughts at the end among them.
func all(n, low, high int) [][]int {
	lists := [][]int{nil}
	for from := 0; n > 0; n-- {
		end := len(lists)
		for _, l := range lists[from:end] {
			for c := low; c <= high; c++ {
				lists = append(lists, append(slices.Clone(l), c))
			}
		}
		from = end
	}
	return lists
}

// edges are polynomials at which something turns, few of them plain.
func edges() [][]api.Int {
	list := [][]api.Int{
		nil, {}, poly(0, 0), {{Neg: true}, {Neg: true, Abs: []uint64{0, 0}}}, poly(0, 1), poly(0, 0, -2, 0), poly(1, 1), poly(-1, 1), poly(1, -1, 0, 0), poly(-1, 0, 1),
		poly(4, -6), poly(6, 9, 3), poly(1, 5, 25), poly(1, 6, 25, 50), poly(2, 0, 2, 0), {{Abs: []uint64{0, 1}}, {}, {Neg: true, Abs: []uint64{0, 1}}},
		{{Neg: true, Abs: []uint64{6, 0}}, {Abs: []uint64{0, 0}}, {Abs: []uint64{9, 0}}, {Neg: true, Abs: []uint64{0}}}, {{Abs: []uint64{most, most}}, {Neg: true, Abs: []uint64{most, most}}, {}},
	}
	for _, c := range numbers() {
		list = append(list, []api.Int{c}, []api.Int{c, small(1)}, []api.Int{small(3), c})
	}
	return list
}

// pairs calls f with many pairs of polynomials and a number to divide by: small ones, edges, long ones.
func pairs(f func(a, b []api.Int, m api.Int)) {
	for _, m := range moduli() {
		for _, a := range edges() {
			for _, b := range edges() {
				f(a, b, m)
			}
		}
	}
	r := newMaker(1)
	for range 1500 {
		f(r.some(9), r.some(9), moduli()[r.IntN(len(moduli()))])
		f(r.some(9), append(r.some(5), small(1)), moduli()[r.IntN(len(moduli()))])
	}
	for range 20 {
		f(r.some(60), r.some(60), moduli()[r.IntN(len(moduli()))])
		f(r.some(60), append(r.some(20), small(1)), moduli()[r.IntN(len(moduli()))])
	}
}

// want fails, unless a call answered that polynomial, limb by limb.
func want(t *testing.T, what fmt.Stringer, a, wanted []api.Int) {
	t.Helper()
	if !same(a, wanted) {
		t.Fatalf("%s: %s, not %s", what, text(a), text(wanted))
	}
}

// wantLift fails, unless Lift answers what P13.3 asks for, the numbers limb by limb: there is but one such list.
func wantLift(t *testing.T, a []api.Int, l [][]int, p, k int) [][]api.Int {
	t.Helper()
	z, e := hensel.Lift(a, l, p, k)
	if e != api.OK || len(z) != len(l) {
		t.Fatalf("%s: %v, %v", said("Lift", a, l, p, k), z, e)
	}
	m := powerOf(p, k)
	for i, f := range z {
		if !same(f, by(f, m)) || !sameInt(f[len(f)-1], small(1)) || !slices.Equal(intsBy(f, p), l[i]) {
			t.Fatalf("%s: %s in place of %v", said("Lift", a, l, p, k), text(f), l[i])
		}
	}
	whole := norm(a)
	product := by(times(append(slices.Clone(z), whole[len(whole)-1:])...), m)
	if !same(product, by(a, m)) {
		t.Fatalf("%s: the product is %s", said("Lift", a, l, p, k), text(product))
	}
	return z
}

// wantNoLift fails, unless Lift answers that error, and nothing beside it.
func wantNoLift(t *testing.T, a []api.Int, l [][]int, p, k int, wanted api.Errno) {
	t.Helper()
	if z, e := hensel.Lift(a, l, p, k); e != wanted || z != nil {
		t.Errorf("%s: %v, %v, not %v", said("Lift", a, l, p, k), z, e, wanted)
	}
}

// text tells a polynomial's numbers; those that are not plain stand there limb by limb.
func text(a []api.Int) string {
	var all []string
	for _, c := range a {
		if v := value(c); sameInt(c, of(v)) {
			all = append(all, v.String())
		} else {
			all = append(all, fmt.Sprint(c))
		}
	}
	return "[" + strings.Join(all, " ") + "]"
}

// asked is a call, and what was handed to it. It is told only when a test fails: long polynomials take their time.
type asked struct {
	name   string
	handed []any
}

func said(name string, handed ...any) asked { return asked{name, handed} }

func (a asked) String() string {
	all := []string{a.name}
	for _, h := range a.handed {
		switch x := h.(type) {
		case []api.Int:
			all = append(all, text(x))
		case api.Int:
			all = append(all, text([]api.Int{x}))
		default:
			all = append(all, fmt.Sprint(x))
		}
	}
	return strings.Join(all, " ")
}
