package short_test

import (
	"fmt"
	"math/big"
	"math/rand/v2"
	"slices"
	"strings"
	"testing"

	"cleaver/api"
	"cleaver/ffac"
	"cleaver/hensel"
	"cleaver/short"
)

const most = ^uint64(0)

// value is an integer as the library has it; the tests hold answers against that.
func value(a api.Int) *big.Int {
	words := make([]big.Word, len(a.Abs))
	for i, limb := range a.Abs {
		words[i] = big.Word(limb)
	}
	v := new(big.Int).SetBits(words)
	if a.Neg {
		v.Neg(v)
	}
	return v
}

// of is the plain integer of a value.
func of(v *big.Int) api.Int {
	a := api.Int{Neg: v.Sign() < 0, Abs: make([]uint64, len(v.Bits()))}
	for i, word := range v.Bits() {
		a.Abs[i] = uint64(word)
	}
	return a
}

// small is the plain integer of a number.
func small(n int) api.Int { return of(big.NewInt(int64(n))) }

// num is the plain integer of a text that the library reads, "0x" and "_" too.
func num(s string) api.Int {
	v, ok := new(big.Int).SetString(s, 0)
	if !ok {
		panic("no number: " + s)
	}
	return of(v)
}

// two is 2 to the power of n.
func two(n int) *big.Int { return new(big.Int).Lsh(big.NewInt(1), uint(n)) }

// sameInt tells that two integers stand there alike, limb by limb.
func sameInt(a, b api.Int) bool { return a.Neg == b.Neg && slices.Equal(a.Abs, b.Abs) }

// same tells that two polynomials stand there alike, limb by limb.
func same(a, b []api.Int) bool { return slices.EqualFunc(a, b, sameInt) }

// poly is the list of numbers, noughts at the end and all.
func poly(l ...int) []api.Int {
	a := make([]api.Int, len(l))
	for i, n := range l {
		a[i] = small(n)
	}
	return a
}

// binomial is x^n + c.
func binomial(n, c int) []api.Int {
	a := append(make([]api.Int, n), small(1))
	a[0] = of(new(big.Int).Add(value(a[0]), big.NewInt(int64(c))))
	return a
}

// What the tests hold answers against: lists of the library's numbers, gone through by hand.

func values(a []api.Int) []*big.Int {
	z := make([]*big.Int, len(a))
	for i, c := range a {
		z[i] = value(c)
	}
	return z
}

// plain is the plain polynomial of such a list.
func plain(l []*big.Int) []api.Int {
	z, end := make([]api.Int, len(l)), 0
	for i, v := range l {
		z[i] = of(v)
		if v.Sign() != 0 {
			end = i + 1
		}
	}
	return z[:end]
}

// norm is a polynomial, plain.
func norm(a []api.Int) []api.Int { return plain(values(a)) }

// noughts is a list of so many noughts, to be added to where they stand.
func noughts(n int) []*big.Int {
	z := make([]*big.Int, n)
	for i := range z {
		z[i] = new(big.Int)
	}
	return z
}

// plus is the sum of a and so many times b.
func plus(a []api.Int, n *big.Int, b []api.Int) []api.Int {
	z := noughts(max(len(a), len(b)))
	for i, v := range values(a) {
		z[i].Add(z[i], v)
	}
	for i, v := range values(b) {
		z[i].Add(z[i], v.Mul(v, n))
	}
	return plain(z)
}

// times is the product of some.
func times(factors ...[]api.Int) []api.Int {
	product := poly(1)
	for _, f := range factors {
		z, y := noughts(len(product)+len(f)), values(f)
		for i, v := range values(product) {
			for j, w := range y {
				z[i+j].Add(z[i+j], new(big.Int).Mul(v, w))
			}
		}
		product = plain(z)
	}
	return product
}

// over is the quotient of two that goes without a rest, the second one monic.
func over(a, b []api.Int) []api.Int {
	left, by := values(a), values(b)
	quotient := noughts(len(left) - len(by) + 1)
	for at := len(quotient) - 1; at >= 0; at-- {
		quotient[at].Set(left[at+len(by)-1])
		for i, v := range by {
			left[at+i].Sub(left[at+i], new(big.Int).Mul(quotient[at], v))
		}
	}
	return plain(quotient)
}

// shifted is a polynomial at x + s.
func shifted(a []api.Int, s int) []api.Int {
	var z []api.Int
	for _, c := range slices.Backward(norm(a)) {
		z = plus(times(z, poly(s, 1)), big.NewInt(1), []api.Int{c})
	}
	return z
}

// circle is the polynomial of all whose n-th power is 1, but no lower one. It is irreducible.
func circle(n int) []api.Int {
	z := binomial(n, -1)
	for d := 1; d < n; d++ {
		if n%d == 0 {
			z = over(z, circle(d))
		}
	}
	return z
}

// climber is the polynomial of all sums of the square roots of some primes, of either sign. It is irreducible, but by each
// prime its factors are of degree 1 or 2 (Swinnerton-Dyer).
func climber(primes ...int) []api.Int {
	z := poly(0, 1)
	for _, p := range primes {
		even, odd := poly(), poly() // z at x + the root of p is even, and odd times that root
		for _, c := range slices.Backward(z) {
			even, odd = plus(plus(times(even, poly(0, 1)), big.NewInt(int64(p)), odd), big.NewInt(1), []api.Int{c}), plus(times(odd, poly(0, 1)), big.NewInt(1), even)
		}
		z = plus(times(even, even), big.NewInt(int64(-p)), times(odd, odd))
	}
	return z
}

// intsBy are a polynomial's rests by p, without noughts at the end.
func intsBy(a []api.Int, p int) []int {
	var l []int
	for _, v := range values(a) {
		l = append(l, int(v.Mod(v, big.NewInt(int64(p))).Int64()))
	}
	return trim(l)
}

// trim leaves out the noughts at the end.
func trim(a []int) []int {
	for len(a) > 0 && a[len(a)-1] == 0 {
		a = a[:len(a)-1]
	}
	return a
}

// restBy is the rest by p of a list of ints that is divided by a monic one, noughts at the end left out.
func restBy(a, b []int, p int) []int {
	left := slices.Clone(a)
	for top := len(left) - 1; top >= len(b)-1; top-- {
		q := left[top] % p
		for i, c := range b {
			left[top-len(b)+1+i] -= q * c % p
		}
	}
	for i, c := range left {
		left[i] = (c%p + p) % p
	}
	return trim(left)
}

// monics are all monic polynomials by p of a degree.
func monics(degree, p int) [][]int {
	lists := [][]int{nil}
	for range degree {
		var longer [][]int
		for _, l := range lists {
			for c := range p {
				longer = append(longer, append(slices.Clone(l), c))
			}
		}
		lists = longer
	}
	for i := range lists {
		lists[i] = append(lists[i], 1)
	}
	return lists
}

// isPrime goes by the document's words: no number but 1 and itself divides it, and it is at most MaxPrime.
func isPrime(n int) bool {
	for d := 2; d*d <= n && n <= api.MaxPrime; d++ {
		if n%d == 0 {
			return false
		}
	}
	return n > 1 && n <= api.MaxPrime
}

// mayBeParted goes by the document's words: p is a prime that does not divide the last coefficient, and no square of a
// monic polynomial by p divides.
func mayBeParted(a []api.Int, p int) bool {
	if !isPrime(p) {
		return false
	}
	a = norm(a)
	l := intsBy(a, p)
	if len(l) < len(a) {
		return false
	}
	for degree := 1; 2*degree < len(l); degree++ {
		for _, g := range monics(degree, p) {
			if len(restBy(l, intsBy(times(poly(g...), poly(g...)), p), p)) == 0 {
				return false
			}
		}
	}
	return true
}

// limitOf is what p^(2 k l) must be greater than, by the document's words.
func limitOf(a []api.Int) *big.Int {
	plain := values(norm(a))
	content, squares := new(big.Int), new(big.Int)
	for _, v := range plain {
		content.GCD(nil, nil, content, new(big.Int).Abs(v))
	}
	for _, v := range plain {
		v.Quo(v, content)
		squares.Add(squares, v.Mul(v, v))
	}
	n := int64(len(plain) - 1)
	m := n - 1
	limit := two(int(m * n))
	limit.Mul(limit, new(big.Int).Exp(new(big.Int).Binomial(2*m, m), big.NewInt(n), nil))
	return limit.Mul(limit, new(big.Int).Exp(squares, big.NewInt(m+n), nil))
}

// needed is the power that is needed, gone up to from 1 on; 1001 stands for all above 1000.
func needed(a []api.Int, p, l int) int {
	limit, step := limitOf(a), powerOf(p, 2*l)
	power, k := new(big.Int).Set(step), 1
	for power.Cmp(limit) <= 0 && k <= 1000 {
		power.Mul(power, step)
		k++
	}
	return k
}

// powerOf is p to the power of k.
func powerOf(p, k int) *big.Int {
	return new(big.Int).Exp(big.NewInt(int64(p)), big.NewInt(int64(k)), nil)
}

// product is a polynomial that is put of unlike primitive irreducible ones, and a number.
type product struct {
	a       []api.Int
	factors [][]api.Int
}

// put is such a product.
func put(by int, factors ...[]api.Int) product {
	return product{times(append([][]api.Int{poly(by)}, factors...)...), factors}
}

// local is a factor of such a product by a prime, and the one factor that it divides by that.
type local struct {
	f     []int
	owner []api.Int
}

// isGood tells that p divides the product's last coefficient not, and that no two of its local factors are the same.
func (c product) isGood(p int) bool {
	good, e := short.Good(c.a, p)
	return good && e == api.OK
}

// locals are all of a product's, by a prime by which it may be parted: those of each factor by itself.
func (c product) locals(p int) []local {
	var all []local
	for _, owner := range c.factors {
		factors, _ := ffac.Split(intsBy(owner, p), p, nil)
		for _, f := range factors {
			all = append(all, local{f, owner})
		}
	}
	return all
}

// lifted are a product's local factors by p^k.
func (c product) lifted(p, k int, locals []local) [][]api.Int {
	var l [][]int
	for _, f := range locals {
		l = append(l, f.f)
	}
	z, e := hensel.Lift(c.a, l, p, k)
	if e != api.OK {
		panic(e)
	}
	return z
}

// highest is the power that is needed for all of some local factors: for those of the lowest degree.
func (c product) highest(p int, locals []local) int {
	lowest := len(c.a)
	for _, f := range locals {
		lowest = min(lowest, len(f.f)-1)
	}
	return needed(c.a, p, lowest)
}

// checkFinds fails, unless Find tells of each local factor the one that it belongs to. So many powers more than needed are
// taken.
func (c product) checkFinds(t *testing.T, p, more int) {
	t.Helper()
	if !c.isGood(p) {
		return
	}
	locals := c.locals(p)
	k := c.highest(p, locals) + more
	if k > 1000 {
		t.Fatalf("%s by %d: %d is asked for", text(c.a), p, k)
	}
	for i, h := range c.lifted(p, k, locals) {
		wantFind(t, c.a, h, p, k, locals[i].owner)
	}
}

// irreducibles are primitive polynomials that can't be parted: x and others of degree 1, ones of degree 2 and 3 without
// roots, ones whose coefficients a prime divides by rule (Eisenstein's), circles' ones and climbers.
func irreducibles() [][]api.Int {
	return [][]api.Int{
		poly(0, 1), poly(1, 1), poly(-1, 1), poly(1, 2), poly(-1, 2), poly(-2, 3), poly(5, 1), poly(-7, 4), poly(9, 10),
		poly(1, 0, 1), poly(-2, 0, 1), poly(1, 1, 1), poly(1, -1, 1), poly(3, 0, 2), poly(-1, -1, 1), poly(7, 3, 5), poly(-3, 0, 2),
		poly(-2, 0, 0, 1), poly(1, 1, 0, 1), poly(-1, 0, 1, 1), poly(2, 0, 0, 3), poly(-2, 0, 0, 0, 0, 1), poly(6, 9, 0, 3, 0, 0, 4),
		circle(5), circle(8), circle(12), circle(15), circle(16), climber(2, 3), climber(2, 5), climber(2, 3, 5), shifted(climber(3, 7), -2), binomial(7, 6),
		{num("0x1_0000000000000000"), small(1)}, {num("-0x8000_0000000000000001"), small(2)}, {small(1), num("0x1_0000000000000000")},
		{num("0x1_0000000000000000"), small(0), small(1)}, {small(-3), num("0x3_0000000000000003"), small(0), num("0x1_0000000000000000")},
	}
}

// maker makes polynomials, always the same ones.
type maker struct{ *rand.Rand }

func newMaker(seed uint64) maker { return maker{rand.New(rand.NewPCG(seed, 0))} }

// product is one of up to n of the first so many irreducible ones, of at most a degree.
func (m maker) product(n, among, degree int) product {
	from := irreducibles()[:among]
	m.Shuffle(len(from), func(i, j int) { from[i], from[j] = from[j], from[i] })
	var factors [][]api.Int
	for _, f := range from[:n] {
		if len(f)-1 <= degree {
			factors = append(factors, f)
			degree -= len(f) - 1
		}
	}
	return put((1+m.IntN(6))*(1-2*m.IntN(2)), factors...)
}

// prime is one by which a product may be parted.
func (m maker) prime(c product, below int) int {
	for {
		if p := 2 + m.IntN(below-2); isPrime(p) && c.isGood(p) {
			return p
		}
	}
}

// unplain is a polynomial whose coefficients have noughts behind them, perhaps with some noughts at the end.
func (m maker) unplain(a []api.Int) []api.Int {
	z := append(slices.Clone(a), []api.Int{{}, {Neg: true}, {Abs: []uint64{0, 0}}, {Neg: true, Abs: []uint64{0}}}[:m.IntN(5)]...)
	for i, c := range z {
		z[i] = api.Int{Neg: c.Neg || len(c.Abs) == 0 && m.IntN(2) == 1, Abs: append(slices.Clone(c.Abs), make([]uint64, m.IntN(3))...)}
	}
	return z
}

// all are all lists of n numbers from -high to high.
func all(n, high int) [][]int {
	lists := [][]int{nil}
	for range n {
		var longer [][]int
		for _, l := range lists {
			for c := -high; c <= high; c++ {
				longer = append(longer, append(slices.Clone(l), c))
			}
		}
		lists = longer
	}
	return lists
}

// noughtLists are nought, in many forms.
func noughtLists() [][]api.Int {
	return [][]api.Int{nil, {}, poly(0), poly(0, 0, 0), {{Neg: true}}, {{Abs: []uint64{0}}, {Neg: true, Abs: []uint64{0, 0}}}, make([]api.Int, 65), make([]api.Int, 66), make([]api.Int, 1000)}
}

// longLists are of degrees above the highest.
func longLists() [][]api.Int {
	return [][]api.Int{binomial(65, 0), binomial(65, 1), append(make([]api.Int, 65), small(-7)), append(slices.Repeat(poly(1), 66), make([]api.Int, 9)...), binomial(66, 0), binomial(128, 5), binomial(5000, 1)}
}

// noPrimes are numbers that are none, or above the greatest one.
func noPrimes() []int {
	return []int{-1 << 63, -65521, -17, -2, -1, 0, 1, 4, 6, 9, 15, 49, 91, 65519 * 7, 251 * 251, 65520, 65522, 65535, 65536, 65537, 1<<31 - 1, 1<<62 + 1, 1<<63 - 1}
}

// wantGood, wantNeed and wantFind fail, unless the call answers that, and no error.
func wantGood(t *testing.T, a []api.Int, p int, wanted bool) {
	t.Helper()
	if good, e := short.Good(a, p); e != api.OK || good != wanted {
		t.Fatalf("Good of %s, %d: %v, %v, not %v", text(a), p, good, e, wanted)
	}
}

func wantNeed(t *testing.T, a []api.Int, p, l, wanted int) {
	t.Helper()
	if k, e := short.Need(a, p, l); e != api.OK || k != wanted {
		t.Fatalf("Need of %s, %d, %d: %d, %v, not %d", text(a), p, l, k, e, wanted)
	}
}

func wantFind(t *testing.T, a, h []api.Int, p, k int, wanted []api.Int) {
	t.Helper()
	if z, e := short.Find(a, h, p, k); e != api.OK || !same(z, wanted) {
		t.Fatalf("Find of %s, %s, %d, %d: %s, %v, not %s", text(a), text(h), p, k, text(z), e, text(wanted))
	}
}

// wantNoGood, wantNoNeed and wantNoFind fail, unless the call answers that error, and nothing beside it.
func wantNoGood(t *testing.T, a []api.Int, p int, wanted api.Errno) {
	t.Helper()
	if good, e := short.Good(a, p); e != wanted || good {
		t.Errorf("Good of %s, %d: %v, %v, not %v", text(a), p, good, e, wanted)
	}
}

func wantNoNeed(t *testing.T, a []api.Int, p, l int, wanted api.Errno) {
	t.Helper()
	if k, e := short.Need(a, p, l); e != wanted || k != 0 {
		t.Errorf("Need of %s, %d, %d: %d, %v, not %v", text(a), p, l, k, e, wanted)
	}
}

func wantNoFind(t *testing.T, a, h []api.Int, p, k int, wanted api.Errno) {
	t.Helper()
	if z, e := short.Find(a, h, p, k); e != wanted || z != nil {
		t.Errorf("Find of %s, %s, %d, %d: %s, %v, not %v", text(a), text(h), p, k, text(z), e, wanted)
	}
}

// text tells a polynomial's numbers; those that are not plain stand there limb by limb, and long ones in part.
func text(a []api.Int) string {
	var all []string
	for i, c := range a {
		v := value(c)
		switch {
		case i > 70:
			return "[" + strings.Join(all, " ") + " ..]"
		case !sameInt(c, of(v)):
			all = append(all, fmt.Sprint(c))
		case v.BitLen() > 500:
			all = append(all, fmt.Sprint("number of ", v.BitLen(), " bits"))
		default:
			all = append(all, v.String())
		}
	}
	return "[" + strings.Join(all, " ") + "]"
}
