package zfac_test

import (
	"fmt"
	"math/big"
	"math/rand/v2"
	"slices"
	"strings"
	"testing"

	"cleaver/api"
	"cleaver/zfac"
)

const most = ^uint64(0)

// value is an integer as the library has it; the tests hold answers against that.
func value(a api.Int) *big.Int {
	words := make([]big.Word, len(a.Abs))
	for i, limb := range a.Abs {
		words[i] = big.Word(limb)
	}
	v := new(big.Int).SetBits(words)
	if a.Neg {
		v.Neg(v)
	}
	return v
}

// of is the plain integer of a value.
func of(v *big.Int) api.Int {
	a := api.Int{Neg: v.Sign() < 0, Abs: make([]uint64, len(v.Bits()))}
	for i, word := range v.Bits() {
		a.Abs[i] = uint64(word)
	}
	return a
}

// small is the plain integer of a number.
func small(n int) api.Int { return of(big.NewInt(int64(n))) }

// num is the plain integer of a text that the library reads, "0x" and "_" too.
func num(s string) api.Int {
	v, ok := new(big.Int).SetString(s, 0)
	if !ok {
		panic("no number: " + s)
	}
	return of(v)
}

// two is 2 to the power of n, and so much more.
func two(n, more int) api.Int {
	v := new(big.Int).Lsh(big.NewInt(1), uint(n))
	return of(v.Add(v, big.NewInt(int64(more))))
}

// sameInt tells that two integers stand there alike, limb by limb.
func sameInt(a, b api.Int) bool { return a.Neg == b.Neg && slices.Equal(a.Abs, b.Abs) }

// same tells that two polynomials stand there alike, limb by limb.
func same(a, b []api.Int) bool { return slices.EqualFunc(a, b, sameInt) }

// sameFactors tells that two lists of factors stand there alike.
func sameFactors(a, b []api.Factor) bool {
	return slices.EqualFunc(a, b, func(x, y api.Factor) bool { return x.N == y.N && same(x.P, y.P) })
}

// poly is the list of numbers, noughts at the end and all.
func poly(l ...int) []api.Int {
	a := make([]api.Int, len(l))
	for i, n := range l {
		a[i] = small(n)
	}
	return a
}

// binomial is x^n + c.
func binomial(n, c int) []api.Int {
	a := append(make([]api.Int, n), small(1))
	a[0] = of(new(big.Int).Add(value(a[0]), big.NewInt(int64(c))))
	return a
}

// What the tests hold answers against: lists of the library's numbers, gone through by hand.

func values(a []api.Int) []*big.Int {
	z := make([]*big.Int, len(a))
	for i, c := range a {
		z[i] = value(c)
	}
	return z
}

// plain is the plain polynomial of such a list.
func plain(l []*big.Int) []api.Int {
	z, end := make([]api.Int, len(l)), 0
	for i, v := range l {
		z[i] = of(v)
		if v.Sign() != 0 {
			end = i + 1
		}
	}
	return z[:end]
}

// norm is a polynomial, plain.
func norm(a []api.Int) []api.Int { return plain(values(a)) }

// noughts is a list of so many noughts, to be added to where they stand.
func noughts(n int) []*big.Int {
	z := make([]*big.Int, n)
	for i := range z {
		z[i] = new(big.Int)
	}
	return z
}

// plus is the sum of a and so many times b.
func plus(a []api.Int, n *big.Int, b []api.Int) []api.Int {
	z := noughts(max(len(a), len(b)))
	for i, v := range values(a) {
		z[i].Add(z[i], v)
	}
	for i, v := range values(b) {
		z[i].Add(z[i], v.Mul(v, n))
	}
	return plain(z)
}

// times is the product of some.
func times(factors ...[]api.Int) []api.Int {
	product := poly(1)
	for _, f := range factors {
		z, y := noughts(len(product)+len(f)), values(f)
		for i, v := range values(product) {
			for j, w := range y {
				z[i+j].Add(z[i+j], new(big.Int).Mul(v, w))
			}
		}
		product = plain(z)
	}
	return product
}

// over is the quotient of two that goes without a rest, the second one monic.
func over(a, b []api.Int) []api.Int {
	left, by := values(a), values(b)
	quotient := noughts(len(left) - len(by) + 1)
	for at := len(quotient) - 1; at >= 0; at-- {
		quotient[at].Set(left[at+len(by)-1])
		for i, v := range by {
			left[at+i].Sub(left[at+i], new(big.Int).Mul(quotient[at], v))
		}
	}
	return plain(quotient)
}

// shifted is a polynomial at x + s.
func shifted(a []api.Int, s int) []api.Int {
	var z []api.Int
	for _, c := range slices.Backward(norm(a)) {
		z = plus(times(z, poly(s, 1)), big.NewInt(1), []api.Int{c})
	}
	return z
}

// spread is a polynomial at x^n.
func spread(a []api.Int, n int) []api.Int {
	z := make([]api.Int, (len(a)-1)*n+1)
	for i, c := range a {
		z[i*n] = c
	}
	return z
}

// circle is the polynomial of all whose n-th power is 1, but no lower one. It is irreducible.
func circle(n int) []api.Int {
	z := binomial(n, -1)
	for d := 1; d < n; d++ {
		if n%d == 0 {
			z = over(z, circle(d))
		}
	}
	return z
}

// climber is the polynomial of all sums of the square roots of some numbers, of either sign. It is irreducible, if no product
// of some of them is a square; but by each prime its factors are of degree 1 or 2 (Swinnerton-Dyer).
func climber(numbers ...int) []api.Int {
	z := poly(0, 1)
	for _, n := range numbers {
		even, odd := poly(), poly() // z at x + the root of n is even, and odd times that root
		for _, c := range slices.Backward(z) {
			even, odd = plus(plus(times(even, poly(0, 1)), big.NewInt(int64(n)), odd), big.NewInt(1), []api.Int{c}), plus(times(odd, poly(0, 1)), big.NewInt(1), even)
		}
		z = plus(times(even, even), big.NewInt(int64(-n)), times(odd, odd))
	}
	return z
}

// order is as in chapter 10, of plain ones.
func order(a, b []api.Int) int {
	if len(a) != len(b) {
		return len(a) - len(b)
	}
	for i, c := range slices.Backward(a) {
		if z := value(c).Cmp(value(b[i])); z != 0 {
			return z
		}
	}
	return 0
}

// limitBits is, by the document's words, how many bits 2 Bound(R) times R's last coefficient has; the least natural is gone
// up to from the root, rounded down.
func limitBits(radical []api.Int) int {
	squares, degree := new(big.Int), len(radical)-1
	for _, v := range values(radical) {
		squares.Add(squares, v.Mul(v, v))
	}
	least := new(big.Int).Sqrt(squares)
	for new(big.Int).Mul(least, least).Cmp(squares) < 0 {
		least.Add(least, big.NewInt(1))
	}
	least.Lsh(least, uint(degree))
	return least.Lsh(least, 1).Mul(least, value(radical[degree])).BitLen()
}

// product is a polynomial that is put of unlike primitive irreducible ones, each so often, and a number.
type product struct {
	a       []api.Int
	by      api.Int
	factors []api.Factor // in order
}

// put is such a product.
func put(by api.Int, factors ...api.Factor) product {
	a := []api.Int{by}
	for _, f := range factors {
		for range f.N {
			a = times(a, f.P)
		}
	}
	factors = slices.Clone(factors)
	slices.SortFunc(factors, func(x, y api.Factor) int { return order(x.P, y.P) })
	return product{a, by, factors}
}

// once are factors that are there but once.
func once(all ...[]api.Int) []api.Factor {
	var factors []api.Factor
	for _, f := range all {
		factors = append(factors, api.Factor{P: f, N: 1})
	}
	return factors
}

// free is such a product of some that are there but once.
func free(by int, all ...[]api.Int) product { return put(small(by), once(all...)...) }

// isFree: is each factor there but once?
func (c product) isFree() bool {
	return !slices.ContainsFunc(c.factors, func(f api.Factor) bool { return f.N > 1 })
}

// radical is the product of all factors, each once.
func (c product) radical() []api.Int {
	z := poly(1)
	for _, f := range c.factors {
		z = times(z, f.P)
	}
	return z
}

// polys are the factors alone.
func polys(factors []api.Factor) [][]api.Int {
	var z [][]api.Int
	for _, f := range factors {
		z = append(z, f.P)
	}
	return z
}

// irreducibles are primitive polynomials that can't be parted: x and others of degree 1, ones of degree 2 and 3 without
// roots, ones whose coefficients a prime divides by rule (Eisenstein's), circles' ones and climbers, and, from 33 on, ones
// with great numbers.
func irreducibles() [][]api.Int {
	return [][]api.Int{
		poly(0, 1), poly(1, 1), poly(-1, 1), poly(1, 2), poly(-1, 2), poly(-2, 3), poly(5, 1), poly(-7, 4), poly(9, 10),
		poly(1, 0, 1), poly(-2, 0, 1), poly(1, 1, 1), poly(1, -1, 1), poly(3, 0, 2), poly(-1, -1, 1), poly(7, 3, 5), poly(-3, 0, 2),
		poly(-2, 0, 0, 1), poly(1, 1, 0, 1), poly(-1, 0, 1, 1), poly(2, 0, 0, 3), poly(-2, 0, 0, 0, 0, 1), poly(6, 9, 0, 3, 0, 0, 4),
		circle(5), circle(8), circle(12), circle(15), circle(16), climber(2, 3), climber(2, 5), climber(2, 3, 5), shifted(climber(3, 7), -2), binomial(7, 6),
		{two(64, 0), small(1)}, {num("-0x8000_0000000000000001"), small(2)}, {small(1), two(64, 0)},
		{two(64, 0), small(0), small(1)}, {small(-3), num("0x3_0000000000000003"), small(0), two(64, 0)},
	}
}

// maker makes polynomials, always the same ones.
type maker struct{ *rand.Rand }

func newMaker(seed uint64) maker { return maker{rand.New(rand.NewPCG(seed, 0))} }

// number is an integer that is not 0, often a small one.
func (m maker) number() api.Int {
	c := small(1 + m.IntN(12))
	if m.IntN(4) == 0 {
		c = api.Int{Abs: []uint64{m.Uint64(), m.Uint64() | 1}}
	}
	c.Neg = m.IntN(2) == 1
	return c
}

// product is one of up to n unlike irreducible ones, each up to so often, of at most a degree.
func (m maker) product(n, often, degree int) product {
	from := irreducibles()
	m.Shuffle(len(from), func(i, j int) { from[i], from[j] = from[j], from[i] })
	var factors []api.Factor
	for _, f := range from[:n] {
		if room := degree / (len(f) - 1); room > 0 {
			n := 1 + m.IntN(min(room, often))
			factors = append(factors, api.Factor{P: f, N: n})
			degree -= n * (len(f) - 1)
		}
	}
	return put(m.number(), factors...)
}

// unplain is a polynomial whose coefficients have noughts behind them, perhaps with some noughts at the end.
func (m maker) unplain(a []api.Int) []api.Int {
	z := append(slices.Clone(a), []api.Int{{}, {Neg: true}, {Abs: []uint64{0, 0}}, {Neg: true, Abs: []uint64{0}}}[:m.IntN(5)]...)
	for i, c := range z {
		z[i] = api.Int{Neg: c.Neg || len(c.Abs) == 0 && m.IntN(2) == 1, Abs: append(slices.Clone(c.Abs), make([]uint64, m.IntN(3))...)}
	}
	return z
}

// eisenstein is a primitive irreducible polynomial of n numbers of some bits: 2 divides all but the last one, 4 not the first.
func (m maker) eisenstein(n, bits int) []api.Int {
	f := make([]*big.Int, n)
	for i := range f {
		f[i] = new(big.Int)
		for range (bits + 63) / 64 {
			f[i].Lsh(f[i], 64).Add(f[i], new(big.Int).SetUint64(m.Uint64()))
		}
		f[i].Rsh(f[i], uint((bits+63)/64*64-bits+1)).SetBit(f[i], 0, 1).Lsh(f[i], 1)
	}
	f[0].SetInt64(2) // the last one has nothing in common with it
	f[n-1].Add(f[n-1], big.NewInt(1))
	return plain(f)
}

// all are all lists of n numbers from -high to high.
func all(n, high int) [][]int {
	lists := [][]int{nil}
	for range n {
		var longer [][]int
		for _, l := range lists {
			for c := -high; c <= high; c++ {
				longer = append(longer, append(slices.Clone(l), c))
			}
		}
		lists = longer
	}
	return lists
}

// someDraws are many, of all kinds: none, alike ones, great ones, ones below 0, more than are ever needed.
func (m maker) someDraws() [][]int {
	z := [][]int{nil, {}, {0}, {1}, {-1}, {65520}, {-1 << 63}, {1<<63 - 1}, make([]int, 1000), {4: 1}, {1, 2, 3, 4, 5}}
	for range 4 {
		draws := make([]int, m.IntN(9))
		for i := range draws {
			draws[i] = int(m.Uint64())
		}
		z = append(z, draws)
	}
	return z
}

// isPrime goes by the document's words: no number but 1 and itself divides it, and it is at most MaxPrime.
func isPrime(n int) bool {
	for d := 2; d*d <= n && n <= api.MaxPrime; d++ {
		if n%d == 0 {
			return false
		}
	}
	return n > 1 && n <= api.MaxPrime
}

// Small polynomials are parted by trial, in ints, so that it does not take long.

// trim leaves out the noughts at the end.
func trim(a []int) []int {
	for len(a) > 0 && a[len(a)-1] == 0 {
		a = a[:len(a)-1]
	}
	return a
}

// goes divides by a polynomial without noughts at the end; it tells whether that goes without a rest.
func goes(a, b []int) ([]int, bool) {
	left := slices.Clone(a)
	quotient := make([]int, max(0, len(left)-len(b)+1))
	for at := len(quotient) - 1; at >= 0; at-- {
		if left[at+len(b)-1]%b[len(b)-1] != 0 {
			return nil, false
		}
		quotient[at] = left[at+len(b)-1] / b[len(b)-1]
		for i, c := range b {
			left[at+i] -= quotient[at] * c
		}
	}
	return quotient, len(trim(left)) == 0
}

// shared is what all numbers have in common; it is below 0, if the last one is.
func shared(a []int) int {
	g := 0
	for _, c := range a {
		for c != 0 {
			g, c = c, g%c
		}
		g = max(g, -g)
	}
	if a[len(a)-1] < 0 {
		return -g
	}
	return g
}

// lowOnes are all primitive irreducible polynomials of degree 1 and 2 that divide one whose numbers are from -high to high:
// its last number is at most that, its first one that is not 0, too, and no root is as great as 1 and that.
func lowOnes(high int) [][]int {
	lines, low := [][]int{{0, 1}}, [][]int{{0, 1}}
	for last := 1; last <= high; last++ {
		for first := -high; first <= high; first++ {
			if first != 0 && shared([]int{first, last}) == 1 {
				lines, low = append(lines, []int{first, last}), append(low, []int{first, last})
			}
		}
	}
	for last := 1; last <= high; last++ {
		for first := -high; first <= high; first++ {
			for middle := -2 * last * (high + 1); middle <= 2*last*(high+1); middle++ {
				a := []int{first, middle, last}
				if first != 0 && shared(a) == 1 && !slices.ContainsFunc(lines, func(l []int) bool { _, ok := goes(a, l); return ok }) {
					low = append(low, a)
				}
			}
		}
	}
	return low
}

// byTrial are the factors of a small polynomial of a degree up to 5: what none of those low ones divides is irreducible, or
// a number.
func byTrial(a []int, low [][]int) product {
	c := product{a: poly(a...)}
	a = trim(a)
	by := shared(a)
	c.by = small(by)
	a, _ = goes(a, []int{by})
	for _, f := range low {
		n := 0
		for rest, ok := goes(a, f); ok; rest, ok = goes(a, f) {
			a = rest
			n++
		}
		if n > 0 {
			c.factors = append(c.factors, api.Factor{P: poly(f...), N: n})
		}
	}
	if len(a) > 1 {
		c.factors = append(c.factors, api.Factor{P: poly(a...), N: 1})
	}
	slices.SortFunc(c.factors, func(x, y api.Factor) int { return order(x.P, y.P) })
	return c
}

// noughtLists are nought, in many forms.
func noughtLists() [][]api.Int {
	return [][]api.Int{nil, {}, poly(0), poly(0, 0, 0), {{Neg: true}}, {{Abs: []uint64{0}}, {Neg: true, Abs: []uint64{0, 0}}}, make([]api.Int, 65), make([]api.Int, 66), make([]api.Int, 1000)}
}

// longLists are of degrees above the highest.
func longLists() [][]api.Int {
	return [][]api.Int{binomial(65, 0), binomial(65, 1), append(make([]api.Int, 65), small(-7)), append(slices.Repeat(poly(1), 66), make([]api.Int, 9)...), binomial(66, 0), binomial(128, 5), binomial(5000, 1)}
}

// wantIrreducible, wantSplit and wantFactors fail, unless the call answers that, and no error.
func wantIrreducible(t *testing.T, a []api.Int, wanted bool) {
	t.Helper()
	if is, e := zfac.Irreducible(a); e != api.OK || is != wanted {
		t.Fatalf("%s: %v, %v, not %v", said("Irreducible", a), is, e, wanted)
	}
}

func wantSplit(t *testing.T, a []api.Int, draws []int, wanted [][]api.Int) {
	t.Helper()
	if z, e := zfac.Split(a, draws); e != api.OK || !slices.EqualFunc(z, wanted, same) {
		t.Fatalf("%s, %v: %s, %v, not %s", said("Split", a), draws, texts(z), e, texts(wanted))
	}
}

func wantFactors(t *testing.T, a []api.Int, draws []int, number api.Int, wanted []api.Factor) {
	t.Helper()
	if c, z, e := zfac.Factors(a, draws); e != api.OK || !sameInt(c, number) || !sameFactors(z, wanted) {
		t.Fatalf("%s, %v: %s, %s, %v, not %s, %s", said("Factors", a), draws, value(c), factorTexts(z), e, value(number), factorTexts(wanted))
	}
}

// want fails, unless all calls answer what is known of a product.
func (c product) want(t *testing.T, draws []int) {
	t.Helper()
	wantFactors(t, c.a, draws, c.by, c.factors)
	wantIrreducible(t, c.a, len(c.factors) == 1 && c.isFree())
	if c.isFree() {
		wantSplit(t, c.a, draws, polys(c.factors))
	} else {
		wantNoSplit(t, c.a, draws, api.ErrArg)
	}
}

// wantNoSplit fails, unless Split answers that error, and nothing beside it.
func wantNoSplit(t *testing.T, a []api.Int, draws []int, wanted api.Errno) {
	t.Helper()
	if z, e := zfac.Split(a, draws); e != wanted || z != nil {
		t.Errorf("%s, %v: %s, %v, not %v", said("Split", a), draws, texts(z), e, wanted)
	}
}

// wantError fails, unless all calls answer that error, and nothing beside it.
func wantError(t *testing.T, a []api.Int, draws []int, wanted api.Errno) {
	t.Helper()
	if is, e := zfac.Irreducible(a); e != wanted || is {
		t.Errorf("%s: %v, %v, not %v", said("Irreducible", a), is, e, wanted)
	}
	wantNoSplit(t, a, draws, wanted)
	if c, z, e := zfac.Factors(a, draws); e != wanted || z != nil || c.Neg || c.Abs != nil {
		t.Errorf("%s, %v: %v, %s, %v, not %v", said("Factors", a), draws, c, factorTexts(z), e, wanted)
	}
}

// text tells a polynomial's numbers; those that are not plain stand there limb by limb, and long ones in part.
func text(a []api.Int) string {
	var all []string
	for i, c := range a {
		v := value(c)
		switch {
		case i > 70:
			return "[" + strings.Join(all, " ") + " ..]"
		case !sameInt(c, of(v)):
			all = append(all, fmt.Sprint(c))
		case v.BitLen() > 1100:
			all = append(all, fmt.Sprint("number of ", v.BitLen(), " bits"))
		default:
			all = append(all, v.String())
		}
	}
	return "[" + strings.Join(all, " ") + "]"
}

func texts(l [][]api.Int) string {
	var all []string
	for _, a := range l {
		all = append(all, text(a))
	}
	return "{" + strings.Join(all, ", ") + "}"
}

func factorTexts(factors []api.Factor) string {
	var all []string
	for _, f := range factors {
		all = append(all, fmt.Sprint(text(f.P), " ", f.N))
	}
	return "{" + strings.Join(all, ", ") + "}"
}

// asked is a call, and what was handed to it. It is told only when a test fails: long polynomials take their time.
type asked struct {
	name string
	a    []api.Int
}

func said(name string, a []api.Int) asked { return asked{name, a} }

func (a asked) String() string { return a.name + text(a.a) }
