package zsqf_test

import (
	"fmt"
	"math/big"
	"math/rand/v2"
	"slices"
	"strings"
	"testing"

	"cleaver/api"
	"cleaver/zsqf"
)

const most = ^uint64(0)

// value is an integer as the library has it; the tests hold answers against that.
func value(a api.Int) *big.Int {
	words := make([]big.Word, len(a.Abs))
	for i, limb := range a.Abs {
		words[i] = big.Word(limb)
	}
	v := new(big.Int).SetBits(words)
	if a.Neg {
		v.Neg(v)
	}
	return v
}

// of is the plain integer of a value.
func of(v *big.Int) api.Int {
	a := api.Int{Neg: v.Sign() < 0, Abs: make([]uint64, len(v.Bits()))}
	for i, word := range v.Bits() {
		a.Abs[i] = uint64(word)
	}
	return a
}

// small is the plain integer of a number.
func small(n int) api.Int { return of(big.NewInt(int64(n))) }

// num is the plain integer of a text that the library reads, "0x" and "_" too.
func num(s string) api.Int {
	v, ok := new(big.Int).SetString(s, 0)
	if !ok {
		panic("no number: " + s)
	}
	return of(v)
}

// sameInt tells that two integers stand there alike, limb by limb.
func sameInt(a, b api.Int) bool { return a.Neg == b.Neg && slices.Equal(a.Abs, b.Abs) }

// same tells that two polynomials stand there alike, limb by limb.
func same(a, b []api.Int) bool { return slices.EqualFunc(a, b, sameInt) }

// sameParts tells that two lists of parts stand there alike.
func sameParts(a, b []zsqf.Part) bool {
	return slices.EqualFunc(a, b, func(x, y zsqf.Part) bool { return x.N == y.N && same(x.P, y.P) })
}

// poly is the list of numbers, noughts at the end and all.
func poly(l ...int) []api.Int {
	a := make([]api.Int, len(l))
	for i, n := range l {
		a[i] = small(n)
	}
	return a
}

// power is x to the power of n.
func power(n int) []api.Int { return append(make([]api.Int, n), small(1)) }

// What the tests hold answers against: lists of the library's numbers, gone through by hand.

func values(a []api.Int) []*big.Int {
	z := make([]*big.Int, len(a))
	for i, c := range a {
		z[i] = value(c)
	}
	return z
}

// plain is the plain polynomial of such a list.
func plain(l []*big.Int) []api.Int {
	z, end := make([]api.Int, len(l)), 0
	for i, v := range l {
		z[i] = of(v)
		if v.Sign() != 0 {
			end = i + 1
		}
	}
	return z[:end]
}

// norm is a polynomial, plain.
func norm(a []api.Int) []api.Int { return plain(values(a)) }

// noughts is a list of so many noughts, to be added to where they stand.
func noughts(n int) []*big.Int {
	z := make([]*big.Int, n)
	for i := range z {
		z[i] = new(big.Int)
	}
	return z
}

// times is the product of some.
func times(factors ...[]api.Int) []api.Int {
	product := poly(1)
	for _, f := range factors {
		z, y := noughts(len(product)+len(f)), values(f)
		for i, v := range values(product) {
			for j, w := range y {
				z[i+j].Add(z[i+j], new(big.Int).Mul(v, w))
			}
		}
		product = plain(z)
	}
	return product
}

// over divides by a plain polynomial that is not nought; it tells whether that goes without a rest.
func over(a, b []api.Int) ([]api.Int, bool) {
	left, by := values(norm(a)), values(b)
	quotient := noughts(max(0, len(left)-len(by)+1))
	for at := len(quotient) - 1; at >= 0; at-- {
		q, r := new(big.Int).QuoRem(left[at+len(by)-1], by[len(by)-1], new(big.Int))
		if r.Sign() != 0 {
			return nil, false
		}
		quotient[at] = q
		for i, v := range by {
			left[at+i].Sub(left[at+i], new(big.Int).Mul(q, v))
		}
	}
	return plain(quotient), len(plain(left)) == 0
}

// content is the greatest common divisor of all coefficients.
func content(a []api.Int) *big.Int {
	g := new(big.Int)
	for _, v := range values(a) {
		g.GCD(nil, nil, g, v.Abs(v))
	}
	return g
}

// factor is a primitive irreducible polynomial, and how often it is to divide.
type factor struct {
	f []api.Int
	n int
}

// put is the product of a number and some unlike factors.
func put(by api.Int, factors []factor) []api.Int {
	z := []api.Int{by}
	for _, f := range factors {
		for range f.n {
			z = times(z, f.f)
		}
	}
	return z
}

// partsOf are the parts that some unlike factors make.
func partsOf(factors []factor) []zsqf.Part {
	highest := 0
	for _, f := range factors {
		highest = max(highest, f.n)
	}
	var parts []zsqf.Part
	for n := 1; n <= highest; n++ {
		product := poly(1)
		for _, f := range factors {
			if f.n == n {
				product = times(product, f.f)
			}
		}
		if len(product) > 1 {
			parts = append(parts, zsqf.Part{P: product, N: n})
		}
	}
	return parts
}

// radicalOf is the product of some unlike factors, each once.
func radicalOf(factors []factor) []api.Int {
	z := poly(1)
	for _, f := range factors {
		z = times(z, f.f)
	}
	return z
}

// isFree: is each of some factors there but once?
func isFree(factors []factor) bool {
	return !slices.ContainsFunc(factors, func(f factor) bool { return f.n > 1 })
}

// boundOf is the bound by the document's words: the least natural is gone up to from the root, rounded down.
func boundOf(a []api.Int) *big.Int {
	plain, squares := values(norm(a)), new(big.Int)
	for _, v := range plain {
		squares.Add(squares, new(big.Int).Mul(v, v))
	}
	least := new(big.Int).Sqrt(squares)
	for new(big.Int).Mul(least, least).Cmp(squares) < 0 {
		least.Add(least, big.NewInt(1))
	}
	return least.Lsh(least, uint(len(plain)-1))
}

// irreducibles are primitive polynomials that can't be parted: x and others of degree 1, ones of degree 2 and 3 without
// roots, ones whose coefficients a prime divides by rule (Eisenstein's), and circles' ones.
func irreducibles() [][]api.Int {
	return [][]api.Int{
		poly(0, 1), poly(1, 1), poly(-1, 1), poly(1, 2), poly(-1, 2), poly(-2, 3), poly(5, 1), poly(-7, 4), poly(9, 10),
		poly(1, 0, 1), poly(-2, 0, 1), poly(1, 1, 1), poly(1, -1, 1), poly(3, 0, 2), poly(-1, -1, 1), poly(7, 3, 5),
		poly(-2, 0, 0, 1), poly(1, 1, 0, 1), poly(-1, 0, 1, 1), poly(2, 0, 0, 3), poly(1, 0, 0, 0, 1), poly(1, 1, 1, 1, 1), poly(-2, 0, 0, 0, 0, 1), poly(6, 9, 0, 3, 0, 0, 4),
		{num("0x1_0000000000000000"), small(1)}, {num("-0x8000_0000000000000001"), small(2)}, {small(1), num("0x1_0000000000000000")},
		{num("0x1_0000000000000000"), small(0), small(1)}, {small(-3), num("0x3_0000000000000003"), small(0), num("0x1_0000000000000000")},
	}
}

// maker makes polynomials, always the same ones.
type maker struct{ *rand.Rand }

func newMaker(seed uint64) maker { return maker{rand.New(rand.NewPCG(seed, 0))} }

// number is an integer that is not 0, often a small one, and perhaps not plain.
func (m maker) number() api.Int {
	c := small(1 + m.IntN(12))
	if m.IntN(4) == 0 {
		c = api.Int{Abs: []uint64{m.Uint64(), m.Uint64() | 1, 0}}
	}
	c.Neg = m.IntN(2) == 1
	return c
}

// factors are up to n unlike irreducible ones, few enough for the degree of their product.
func (m maker) factors(n, degree int) []factor {
	from := irreducibles()
	m.Shuffle(len(from), func(i, j int) { from[i], from[j] = from[j], from[i] })
	var z []factor
	for _, f := range from[:n] {
		most := degree / (len(f) - 1)
		if most == 0 {
			continue
		}
		z = append(z, factor{f, 1 + m.IntN(min(most, 1+m.IntN(9)))})
		degree -= z[len(z)-1].n * (len(f) - 1)
	}
	return z
}

// unplain is a polynomial whose coefficients have noughts behind them, perhaps with some noughts at the end.
func (m maker) unplain(a []api.Int) []api.Int {
	z := append(slices.Clone(a), []api.Int{{}, {Neg: true}, {Abs: []uint64{0, 0}}, {Neg: true, Abs: []uint64{0}}}[:m.IntN(5)]...)
	for i, c := range z {
		z[i] = api.Int{Neg: c.Neg || len(c.Abs) == 0 && m.IntN(2) == 1, Abs: append(slices.Clone(c.Abs), make([]uint64, m.IntN(3))...)}
	}
	return z
}

// all are all lists of n numbers from -high to high.
func all(n, high int) [][]int {
	lists := [][]int{nil}
	for range n {
		var longer [][]int
		for _, l := range lists {
			for c := -high; c <= high; c++ {
				longer = append(longer, append(slices.Clone(l), c))
			}
		}
		lists = longer
	}
	return lists
}

// Small polynomials are parted by trial, in ints, so that it does not take long.

// trim leaves out the noughts at the end.
func trim(a []int) []int {
	for len(a) > 0 && a[len(a)-1] == 0 {
		a = a[:len(a)-1]
	}
	return a
}

// goes divides by a polynomial without noughts at the end; it tells whether that goes without a rest.
func goes(a, b []int) ([]int, bool) {
	left := slices.Clone(a)
	quotient := make([]int, max(0, len(left)-len(b)+1))
	for at := len(quotient) - 1; at >= 0; at-- {
		if left[at+len(b)-1]%b[len(b)-1] != 0 {
			return nil, false
		}
		quotient[at] = left[at+len(b)-1] / b[len(b)-1]
		for i, c := range b {
			left[at+i] -= quotient[at] * c
		}
	}
	return quotient, len(trim(left)) == 0
}

// shared is what all numbers have in common.
func shared(a []int) int {
	g := 0
	for _, c := range a {
		for c != 0 {
			g, c = c, g%c
		}
		g = max(g, -g)
	}
	return g
}

// lowOnes are all primitive irreducible polynomials of degree 1 and 2 that divide one whose numbers are from -2 to 2:
// the last number divides its last one, the first one, but for x, the lowest that is not 0, and no root is as great as 3.
func lowOnes() [][]int {
	lines, low := [][]int{{0, 1}}, [][]int{{0, 1}}
	ends := []int{-2, -1, 1, 2}
	for _, last := range []int{1, 2} {
		for _, first := range ends {
			if shared([]int{first, last}) == 1 {
				lines, low = append(lines, []int{first, last}), append(low, []int{first, last})
			}
		}
	}
	for _, last := range []int{1, 2} {
		for middle := -11; middle <= 11; middle++ {
			for _, first := range ends {
				a := []int{first, middle, last}
				if shared(a) == 1 && !slices.ContainsFunc(lines, func(l []int) bool { _, ok := goes(a, l); return ok }) {
					low = append(low, a)
				}
			}
		}
	}
	return low
}

// byTrial are the factors of a small polynomial of a degree up to 5: what none of those low ones divides is irreducible, or a number.
func byTrial(a []int, low [][]int) []factor {
	var found []factor
	for _, f := range low {
		n := 0
		for rest, ok := goes(a, f); ok; rest, ok = goes(a, f) {
			a = rest
			n++
		}
		if n > 0 {
			found = append(found, factor{poly(f...), n})
		}
	}
	if len(a) == 1 {
		return found
	}
	by := shared(a)
	if a[len(a)-1] < 0 {
		by = -by
	}
	rest, _ := goes(a, []int{by})
	return append(found, factor{poly(rest...), 1})
}

// some calls f with all small polynomials but nought, and with many that are put of known factors.
func some(f func(a []api.Int, factors []factor)) {
	low := lowOnes()
	for _, a := range all(5, 2) {
		if whole := trim(a); len(whole) > 0 {
			f(poly(a...), byTrial(whole, low))
		}
	}
	many(f)
}

// many calls f with polynomials of degrees up to 64 that are put of known factors.
func many(f func(a []api.Int, factors []factor)) {
	m := newMaker(1)
	for range 300 {
		factors := m.factors(1+m.IntN(5), 1+m.IntN(24))
		f(m.unplain(put(m.number(), factors)), factors)
	}
	for range 20 {
		factors := m.factors(1+m.IntN(8), api.MaxDeg)
		f(m.unplain(put(m.number(), factors)), factors)
	}
}

// constants are numbers but nought, few of them plain.
func constants() [][]api.Int {
	return [][]api.Int{
		poly(1), poly(-1), poly(6), poly(-12), poly(1, 0, 0), {{Neg: true, Abs: []uint64{1, 0}}, {Neg: true}}, {{Abs: []uint64{0, 1}}}, {{Neg: true, Abs: []uint64{most, most, 0}}, {}, {Abs: []uint64{0}}},
		append(poly(3), make([]api.Int, 100)...),
	}
}

// noughtLists are nought, in many forms.
func noughtLists() [][]api.Int {
	return [][]api.Int{nil, {}, poly(0), poly(0, 0, 0), {{Neg: true}}, {{Abs: []uint64{0}}, {Neg: true, Abs: []uint64{0, 0}}}, make([]api.Int, 65), make([]api.Int, 66), make([]api.Int, 1000)}
}

// wantIs, wantRadical, wantParts and wantBound fail, unless the call answers that, and no error.
func wantIs(t *testing.T, a []api.Int, wanted bool) {
	t.Helper()
	if is, e := zsqf.Is(a); e != api.OK || is != wanted {
		t.Fatalf("%s: %v, %v, not %v", said("Is", a), is, e, wanted)
	}
}

func wantRadical(t *testing.T, a, wanted []api.Int) {
	t.Helper()
	if radical, e := zsqf.Radical(a); e != api.OK || !same(radical, wanted) {
		t.Fatalf("%s: %s, %v, not %s", said("Radical", a), text(radical), e, text(wanted))
	}
}

func wantParts(t *testing.T, a []api.Int, wanted []zsqf.Part) {
	t.Helper()
	if parts, e := zsqf.Parts(a); e != api.OK || !sameParts(parts, wanted) {
		t.Fatalf("%s: %s, %v, not %s", said("Parts", a), partsText(parts), e, partsText(wanted))
	}
}

func wantBound(t *testing.T, a []api.Int, wanted *big.Int) {
	t.Helper()
	if bound, e := zsqf.Bound(a); e != api.OK || !sameInt(bound, of(wanted)) {
		t.Fatalf("%s: %s, %v, not %v", said("Bound", a), text([]api.Int{bound}), e, wanted)
	}
}

// wantError fails, unless all calls answer that error, and nothing beside it.
func wantError(t *testing.T, a []api.Int, wanted api.Errno) {
	t.Helper()
	is, e := zsqf.Is(a)
	radical, f := zsqf.Radical(a)
	parts, g := zsqf.Parts(a)
	bound, h := zsqf.Bound(a)
	if e != wanted || f != wanted || g != wanted || h != wanted {
		t.Errorf("%s: %v, %v, %v, %v, not %v", said("", a), e, f, g, h, wanted)
	}
	if is || radical != nil || parts != nil || bound.Neg || bound.Abs != nil {
		t.Errorf("%s: %v, %v, %v, %v beside the error", said("", a), is, radical, parts, bound)
	}
}

// text tells a polynomial's numbers; those that are not plain stand there limb by limb.
func text(a []api.Int) string {
	var all []string
	for _, c := range a {
		if v := value(c); sameInt(c, of(v)) {
			all = append(all, v.String())
		} else {
			all = append(all, fmt.Sprint(c))
		}
	}
	return "[" + strings.Join(all, " ") + "]"
}

func partsText(parts []zsqf.Part) string {
	var all []string
	for _, p := range parts {
		all = append(all, fmt.Sprint(text(p.P), " ", p.N))
	}
	return "{" + strings.Join(all, ", ") + "}"
}

// asked is a call, and what was handed to it. It is told only when a test fails: long polynomials take their time.
type asked struct {
	name string
	a    []api.Int
}

func said(name string, a []api.Int) asked { return asked{name, a} }

func (a asked) String() string { return a.name + text(a.a) }
