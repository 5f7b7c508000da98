package ffac_test

import (
	"fmt"
	"math"
	"math/rand/v2"
	"slices"
	"testing"

	"cleaver/api"
	"cleaver/ffac"
)

// maxDegree is the highest degree of what is factored.
const maxDegree = 64

// primes are the least ones, some in the midst, and the greatest ones.
func primes() []int { return []int{2, 3, 5, 7, 11, 13, 251, 257, 4093, 46349, 65519, 65521} }

// noPrimes are numbers by which there is no field.
func noPrimes() []int {
	return []int{math.MinInt, -65521, -7, -1, 0, 1, 4, 9, 65520, 65522, 65536, 65537, 1<<31 - 1, 1<<61 - 1, math.MaxInt}
}

// residue is a number's rest, which is not below 0.
func residue(n, p int) int { return (n%p + p) % p }

// What the tests hold answers against: polynomials as they are made by hand, and their factors, one by one.

// norm is a polynomial, plain.
func norm(a []int, p int) []int {
	z, end := make([]int, len(a)), 0
	for i, c := range a {
		z[i] = residue(c, p)
		if z[i] > 0 {
			end = i + 1
		}
	}
	return z[:end]
}

func times(a, b []int, p int) []int {
	z := make([]int, len(a)+len(b))
	for i, x := range a {
		for k, y := range b {
			z[i+k] = (z[i+k] + residue(x, p)*residue(y, p)) % p
		}
	}
	return norm(z, p)
}

// power is a polynomial times itself, n times.
func power(a []int, n, p int) []int {
	z := []int{1}
	for range n {
		z = times(z, a, p)
	}
	return z
}

// over divides by a monic polynomial; it tells whether that goes without a rest.
func over(a, b []int, p int) ([]int, bool) {
	rest := norm(a, p)
	quotient := make([]int, max(0, len(rest)-len(b)+1))
	for at := len(quotient) - 1; at >= 0; at-- {
		quotient[at] = rest[at+len(b)-1]
		for i, c := range b {
			rest[at+i] = residue(rest[at+i]-quotient[at]*c, p)
		}
	}
	return quotient, len(norm(rest, p)) == 0
}

// all are all lists of n residues by p.
func all(n, p int) [][]int {
	lists := [][]int{nil}
	for range n {
		var longer [][]int
		for _, l := range lists {
			for c := range p {
				longer = append(longer, append(slices.Clone(l), c))
			}
		}
		lists = longer
	}
	return lists
}

// irreducibles are all monic irreducible polynomials of degrees up to n: those that none of lower degree divides.
func irreducibles(n, p int) [][]int {
	var found [][]int
	for degree := 1; degree <= n; degree++ {
		lower := slices.Clone(found)
		for _, coefficients := range all(degree, p) {
			a := append(coefficients, 1)
			if !slices.ContainsFunc(lower, func(f []int) bool { _, goes := over(a, f, p); return goes }) {
				found = append(found, a)
			}
		}
	}
	return found
}

// factor is an irreducible polynomial, and how often it is to divide.
type factor struct {
	f []int
	n int
}

// put is the product of a number and some unlike factors.
func put(by int, factors []factor, p int) []int {
	z := []int{by}
	for _, f := range factors {
		z = times(z, power(f.f, f.n, p), p)
	}
	return z
}

// byHand are a polynomial's factors among these, each divided away as often as it goes.
func byHand(a []int, from [][]int, p int) []factor {
	var found []factor
	for _, f := range from {
		n := 0
		for rest, goes := over(a, f, p); goes; rest, goes = over(rest, f, p) {
			n++
		}
		if n > 0 {
			found = append(found, factor{f, n})
		}
	}
	return found
}

// small calls f with all polynomials that are short enough, but nought, and with their factors.
func small(f func(a []int, factors []factor, p int)) {
	for _, c := range []struct{ p, n int }{{2, 10}, {3, 7}, {5, 4}, {7, 3}, {11, 3}} {
		from := irreducibles(c.n-1, c.p)
		for _, a := range all(c.n, c.p) {
			if len(norm(a, c.p)) > 0 {
				f(a, byHand(a, from, c.p), c.p)
			}
		}
	}
}

// order is how many times a number, times itself, makes 1 by n, with which it has no common divisor.
func order(a, n int) int {
	times, power := 1, a%n
	for power != 1%n {
		power, times = power*a%n, times+1
	}
	return times
}

// hasDivisor: is n a product of two numbers above 1?
func hasDivisor(n int) bool {
	for d := 2; d*d <= n; d++ {
		if n%d == 0 {
			return true
		}
	}
	return false
}

// generator is a number whose powers are all residues but 0.
func generator(p int) int {
	c := 1
	for order(c, p) != p-1 {
		c++
	}
	return c
}

// binomial is x^n less a generator, if that can't be parted: if each prime that divides n divides p - 1, and 4 does, if
// it divides n.
func binomial(n, generator, p int) []int {
	for d := 2; d <= n; d++ {
		if n%d == 0 && !hasDivisor(d) && (p-1)%d != 0 {
			return nil
		}
	}
	if n%4 == 0 && (p-1)%4 != 0 {
		return nil
	}
	z := make([]int, n+1)
	z[0], z[n] = p-generator, 1
	return z
}

// circle is 1 + x + .. + x^n, if n + 1 is a prime and n is the order of p by it: then it can't be parted.
func circle(n, p int) []int {
	if hasDivisor(n+1) || p%(n+1) == 0 || order(p, n+1) != n {
		return nil
	}
	return slices.Repeat([]int{1}, n+1)
}

// climber is x^p - x - c, c not 0: it can't be parted.
func climber(c, p int) []int {
	z := make([]int, p+1)
	z[0], z[1], z[p] = -c, -1, 1
	return norm(z, p)
}

// shifted is a polynomial at x + c: it can be parted just as before.
func shifted(a []int, c, p int) []int {
	var z []int
	for _, coefficient := range slices.Backward(a) {
		z = append(times(z, []int{c, 1}, p), 0)
		z[0] = residue(z[0]+coefficient, p)
	}
	return norm(z, p)
}

// grown are irreducible polynomials of degrees from 2 on, made by rules.
func grown(p int) [][]int {
	var z [][]int
	c := generator(p)
	for n := 2; n <= maxDegree; n++ {
		for _, a := range [][]int{binomial(n, c, p), circle(n, p)} {
			if a != nil {
				z = append(z, a, shifted(a, 1, p), shifted(a, p/2+1, p))
			}
		}
		if n == p {
			z = append(z, climber(1, p), climber(p-1, p))
		}
	}
	return z
}

// maker makes polynomials, always the same ones.
type maker struct{ *rand.Rand }

func newMaker(seed uint64) maker { return maker{rand.New(rand.NewPCG(seed, 0))} }

// irreducible is one of these, or of degree 1.
func (m maker) irreducible(from [][]int, p int) []int {
	if m.IntN(3) > 0 {
		return []int{m.IntN(p), 1}
	}
	return from[m.IntN(len(from))]
}

// factors are up to n unlike ones, few enough for the degree of their product, each up to so often.
func (m maker) factors(from [][]int, n, degree, often, p int) []factor {
	var z []factor
	for range n {
		f := m.irreducible(from, p)
		most := min(degree/(len(f)-1), often)
		if most == 0 || slices.ContainsFunc(z, func(old factor) bool { return slices.Equal(old.f, f) }) {
			continue
		}
		z = append(z, factor{f, 1 + m.IntN(most)})
		degree -= z[len(z)-1].n * (len(f) - 1)
	}
	return z
}

// unplain is a polynomial whose coefficients are some others with the same rests, perhaps with noughts at the end.
func (m maker) unplain(a []int, p int) []int {
	z := append(slices.Clone(a), make([]int, m.IntN(3))...)
	for i := range z {
		z[i] += p * []int{0, 0, 1, -1, m.IntN(1 << 40), -m.IntN(1 << 40)}[m.IntN(6)]
	}
	return z
}

// draws are some, often short ones, and seldom plain.
func (m maker) draws(p int) []int {
	z := make([]int, m.IntN(1+m.IntN(2*maxDegree)))
	for i := range z {
		z[i] = []int{0, m.IntN(p), m.IntN(p), -m.IntN(p), m.Int(), ^m.Int(), math.MinInt, math.MaxInt}[m.IntN(8)]
	}
	return z
}

// made calls f with many polynomials that are put of factors by these primes, each factor there up to so often.
func made(primes []int, often int, f func(a []int, factors []factor, p int)) {
	m := newMaker(1)
	for _, p := range primes {
		from := grown(p)
		if p < 7 {
			from = append(from, irreducibles(4, p)...)
		}
		for range 24 {
			factors := m.factors(from, 1+m.IntN(20), 1+m.IntN(maxDegree), often, p)
			f(m.unplain(put(1+m.IntN(p-1), factors, p), p), factors, p)
		}
		for range 3 {
			factors := m.factors(from, 2*maxDegree, maxDegree, often, p)
			f(put(1+m.IntN(p-1), factors, p), factors, p)
		}
		for range 20 {
			alone := from[m.IntN(len(from))]
			f(m.unplain(alone, p), []factor{{alone, 1}}, p)
		}
	}
}

// some calls f with small polynomials and with made ones; someSquarefree with those that no square divides; few with
// less of them.
func some(f func(a []int, factors []factor, p int)) {
	small(f)
	made(primes(), 1, f)
	made(primes(), 9, f)
}

func someSquarefree(f func(a []int, factors []factor, p int)) {
	small(func(a []int, factors []factor, p int) {
		if isSquarefree(factors) {
			f(a, factors, p)
		}
	})
	made(primes(), 1, f)
}

func few(f func(a []int, factors []factor, p int)) {
	small(func(a []int, factors []factor, p int) {
		if p == 3 {
			f(a, factors, p)
		}
	})
	for _, often := range []int{1, 5} {
		made([]int{2, 5, 13, 65521}, often, f)
	}
}

func isSquarefree(factors []factor) bool {
	return !slices.ContainsFunc(factors, func(f factor) bool { return f.n > 1 })
}

// constants are numbers but nought, few of them plain.
func constants(p int) [][]int {
	return [][]int{{1}, {-1}, {p - 1}, {1, 0, 0}, {p + 1, p}, {1 - p, -p, 2 * p}, {math.MaxInt/p*p - 1}, {math.MinInt/p*p + 1, 0}}
}

// noughts are nought, in many forms.
func noughts(p int) [][]int {
	return [][]int{nil, {}, {0}, {0, 0, 0}, {p}, {-p, 2 * p}, {math.MinInt / p * p}, {0, math.MaxInt / p * p}, make([]int, 1000)}
}

// ahead is the document's order, taken literally.
func ahead(a, b []int) bool {
	if len(a) != len(b) {
		return len(a) < len(b)
	}
	for place := len(a) - 1; place >= 0; place-- {
		if a[place] != b[place] {
			return a[place] < b[place]
		}
	}
	return false
}

// inOrder sorts them by hand, the least one of those that are left each time.
func inOrder(factors []factor) []factor {
	left, z := slices.Clone(factors), []factor{}
	for len(left) > 0 {
		least := 0
		for i, f := range left {
			if ahead(f.f, left[least].f) {
				least = i
			}
		}
		z, left = append(z, left[least]), slices.Delete(left, least, least+1)
	}
	return z
}

// Fails, unless the calls answer that, and no error.

func wantIrreducible(t *testing.T, a []int, p int, wanted bool) {
	t.Helper()
	if is, e := ffac.Irreducible(a, p); e != api.OK || is != wanted {
		t.Fatalf("%s: %v, %v, not %v", said("Irreducible", p, a), is, e, wanted)
	}
}

func wantDegrees(t *testing.T, a []int, p int, wanted [][]int) {
	t.Helper()
	if products, e := ffac.Degrees(a, p); e != api.OK || !alike(products, wanted) {
		t.Fatalf("%s: %v, %v, not %v", said("Degrees", p, a), products, e, wanted)
	}
}

func wantSplit(t *testing.T, a []int, p int, draws []int, wanted [][]int) {
	t.Helper()
	if factors, e := ffac.Split(a, p, draws); e != api.OK || !alike(factors, wanted) {
		t.Fatalf("%s, %v: %v, %v, not %v", said("Split", p, a), draws, factors, e, wanted)
	}
}

func wantFactors(t *testing.T, a []int, p int, draws []int, wanted []factor) {
	t.Helper()
	same := func(x ffac.Factor, y factor) bool { return x.N == y.n && slices.Equal(x.P, y.f) }
	if factors, e := ffac.Factors(a, p, draws); e != api.OK || !slices.EqualFunc(factors, wanted, same) {
		t.Fatalf("%s, %v: %v, %v, not %v", said("Factors", p, a), draws, factors, e, wanted)
	}
}

// alike: are the lists the same?
func alike(a, b [][]int) bool { return slices.EqualFunc(a, b, slices.Equal[[]int]) }

// wantError fails, unless the calls answer these errors, and nothing beside them.
func wantError(t *testing.T, a []int, p int, wanted, wantedOfSquarefree api.Errno) {
	t.Helper()
	is, e := ffac.Irreducible(a, p)
	if e != wanted || is {
		t.Errorf("%s: %v, %v, not %v", said("Irreducible", p, a), is, e, wanted)
	}
	products, e := ffac.Degrees(a, p)
	if e != wantedOfSquarefree || products != nil {
		t.Errorf("%s: %v, %v, not %v", said("Degrees", p, a), products, e, wantedOfSquarefree)
	}
	for _, draws := range [][]int{nil, {}, {1, 2, 3}} {
		single, e := ffac.Split(a, p, draws)
		if e != wantedOfSquarefree || single != nil {
			t.Errorf("%s: %v, %v, not %v", said("Split", p, a), single, e, wantedOfSquarefree)
		}
		factors, e := ffac.Factors(a, p, draws)
		if e != wanted || factors != nil {
			t.Errorf("%s: %v, %v, not %v", said("Factors", p, a), factors, e, wanted)
		}
	}
}

// asked is a call, and what was handed to it. It is told only when a test fails: long polynomials take their time.
type asked struct {
	name string
	p    int
	a    []int
}

func said(name string, p int, a []int) asked { return asked{name, p, a} }

func (a asked) String() string { return fmt.Sprintf("%s%v by %d", a.name, a.a, a.p) }
