package fsqf_test

import (
	"fmt"
	"math"
	"math/rand/v2"
	"slices"
	"testing"

	"cleaver/api"
	"cleaver/fsqf"
)

// primes are the least ones, some in the midst, and the greatest ones.
func primes() []int { return []int{2, 3, 5, 7, 11, 251, 4093, 46349, 65519, 65521} }

// noPrimes are numbers by which there is no field.
func noPrimes() []int {
	return []int{math.MinInt, -65521, -7, -1, 0, 1, 4, 9, 65520, 65522, 65536, 65537, 1<<31 - 1, 1<<61 - 1, math.MaxInt}
}

// residue is a number's rest, which is not below 0.
func residue(n, p int) int { return (n%p + p) % p }

// What the tests hold answers against: polynomials as they are made by hand, and their factors, one by one.

// norm is a polynomial, plain.
func norm(a []int, p int) []int {
	z, end := make([]int, len(a)), 0
	for i, c := range a {
		z[i] = residue(c, p)
		if z[i] > 0 {
			end = i + 1
		}
	}
	return z[:end]
}

func times(a, b []int, p int) []int {
	z := make([]int, len(a)+len(b))
	for i, x := range a {
		for k, y := range b {
			z[i+k] = (z[i+k] + residue(x, p)*residue(y, p)) % p
		}
	}
	return norm(z, p)
}

// power is a polynomial times itself, n times.
func power(a []int, n, p int) []int {
	z := []int{1}
	for range n {
		z = times(z, a, p)
	}
	return z
}

// over divides by a monic polynomial; it tells whether that goes without a rest.
func over(a, b []int, p int) ([]int, bool) {
	rest := norm(a, p)
	quotient := make([]int, max(0, len(rest)-len(b)+1))
	for at := len(quotient) - 1; at >= 0; at-- {
		quotient[at] = rest[at+len(b)-1]
		for i, c := range b {
			rest[at+i] = residue(rest[at+i]-quotient[at]*c, p)
		}
	}
	return quotient, len(norm(rest, p)) == 0
}

// all are all lists of n residues by p.
func all(n, p int) [][]int {
	lists := [][]int{nil}
	for range n {
		var longer [][]int
		for _, l := range lists {
			for c := range p {
				longer = append(longer, append(slices.Clone(l), c))
			}
		}
		lists = longer
	}
	return lists
}

// irreducibles are all monic irreducible polynomials of degrees up to n: those that none of lower degree divides.
func irreducibles(n, p int) [][]int {
	var found [][]int
	for degree := 1; degree <= n; degree++ {
		lower := slices.Clone(found)
		for _, coefficients := range all(degree, p) {
			a := append(coefficients, 1)
			if !slices.ContainsFunc(lower, func(f []int) bool { _, goes := over(a, f, p); return goes }) {
				found = append(found, a)
			}
		}
	}
	return found
}

// hasRoot: is a residue the square of one?
func hasRoot(c, p int) bool {
	for x := range p {
		if x*x%p == residue(c, p) {
			return true
		}
	}
	return false
}

// factor is an irreducible polynomial, and how often it is to divide.
type factor struct {
	f []int
	n int
}

// put is the product of a number and some unlike factors.
func put(by int, factors []factor, p int) []int {
	z := []int{by}
	for _, f := range factors {
		z = times(z, power(f.f, f.n, p), p)
	}
	return z
}

// partsOf are the parts that some unlike factors make.
func partsOf(factors []factor, p int) []fsqf.Part {
	highest := 0
	for _, f := range factors {
		highest = max(highest, f.n)
	}
	var parts []fsqf.Part
	for n := 1; n <= highest; n++ {
		product := []int{1}
		for _, f := range factors {
			if f.n == n {
				product = times(product, f.f, p)
			}
		}
		if len(product) > 1 {
			parts = append(parts, fsqf.Part{P: product, N: n})
		}
	}
	return parts
}

// radicalOf is the product of some unlike factors, each once.
func radicalOf(factors []factor, p int) []int {
	z := []int{1}
	for _, f := range factors {
		z = times(z, f.f, p)
	}
	return z
}

// byHand are a polynomial's factors among these, each divided away as often as it goes.
func byHand(a []int, from [][]int, p int) []factor {
	var found []factor
	for _, f := range from {
		n := 0
		for rest, goes := over(a, f, p); goes; rest, goes = over(rest, f, p) {
			n++
		}
		if n > 0 {
			found = append(found, factor{f, n})
		}
	}
	return found
}

// small calls f with all polynomials that are short enough, but nought, and with their factors.
func small(f func(a []int, factors []factor, p int)) {
	for _, c := range []struct{ p, n int }{{2, 10}, {3, 7}, {5, 5}, {7, 4}, {11, 3}} {
		from := irreducibles(c.n-1, c.p)
		for _, a := range all(c.n, c.p) {
			if len(norm(a, c.p)) > 0 {
				f(a, byHand(a, from, c.p), c.p)
			}
		}
	}
}

// maker makes polynomials, always the same ones.
type maker struct{ *rand.Rand }

func newMaker(seed uint64) maker { return maker{rand.New(rand.NewPCG(seed, 0))} }

// linear is x plus some residue.
func (m maker) linear(p int) []int { return []int{m.IntN(p), 1} }

// quadratic is an irreducible polynomial of degree 2 by an odd p: x plus some residue, squared, less one without a root.
func (m maker) quadratic(p int) []int {
	c, r := m.IntN(p), m.IntN(p)
	for hasRoot(c, p) {
		c = m.IntN(p)
	}
	return norm([]int{r*r - c, 2 * r, 1}, p)
}

// irreducible is one of low degree.
func (m maker) irreducible(p int) []int {
	if p < 7 {
		from := irreducibles(3, p)
		return from[m.IntN(len(from))]
	}
	if m.IntN(3) == 0 {
		return m.quadratic(p)
	}
	return m.linear(p)
}

// number is how often a factor is to divide, often one at which something turns.
func (m maker) number(p, most int) int {
	near := []int{1, 2, p - 1, p, p + 1, 2 * p, 2*p + 1, p*p - 1, p * p, p*p + 1, p*p + p, p * p * p}
	if n := near[m.IntN(len(near))]; m.IntN(2) == 0 && 1 <= n && n <= most {
		return n
	}
	return 1 + m.IntN(most)
}

// factors are up to n unlike ones, few enough for the degree of their product.
func (m maker) factors(n, degree, p int) []factor {
	var z []factor
	for range n {
		f := m.irreducible(p)
		most := degree / (len(f) - 1)
		if most == 0 || slices.ContainsFunc(z, func(old factor) bool { return slices.Equal(old.f, f) }) {
			continue
		}
		z = append(z, factor{f, m.number(p, min(most, 40))})
		degree -= z[len(z)-1].n * (len(f) - 1)
	}
	return z
}

// unplain is a polynomial whose coefficients are some others with the same rests, perhaps with noughts at the end.
func (m maker) unplain(a []int, p int) []int {
	z := append(slices.Clone(a), make([]int, m.IntN(3))...)
	for i := range z {
		z[i] += p * []int{0, 0, 1, -1, m.IntN(1 << 40), -m.IntN(1 << 40)}[m.IntN(6)]
	}
	return z
}

// some calls f with small polynomials, and with many that are put of factors by all primes.
func some(f func(a []int, factors []factor, p int)) {
	small(f)
	m := newMaker(1)
	for _, p := range primes() {
		for range 60 {
			factors := m.factors(1+m.IntN(6), 1+m.IntN(64), p)
			f(m.unplain(put(1+m.IntN(p-1), factors, p), p), factors, p)
		}
		factors := m.factors(9, 200, p)
		f(put(1+m.IntN(p-1), factors, p), factors, p)
	}
}

// constants are numbers but nought, few of them plain.
func constants(p int) [][]int {
	return [][]int{{1}, {-1}, {p - 1}, {1, 0, 0}, {p + 1, p}, {1 - p, -p, 2 * p}, {math.MaxInt/p*p - 1}, {math.MinInt/p*p + 1, 0}}
}

// noughts are nought, in many forms.
func noughts(p int) [][]int {
	return [][]int{nil, {}, {0}, {0, 0, 0}, {p}, {-p, 2 * p}, {math.MinInt / p * p}, {0, math.MaxInt / p * p}}
}

// same: are the parts alike?
func same(a, b []fsqf.Part) bool {
	return slices.EqualFunc(a, b, func(x, y fsqf.Part) bool { return x.N == y.N && slices.Equal(x.P, y.P) })
}

// wantIs, wantRadical and wantParts fail, unless the call answers that, and no error.
func wantIs(t *testing.T, a []int, p int, wanted bool) {
	t.Helper()
	if is, e := fsqf.Is(a, p); e != api.OK || is != wanted {
		t.Fatalf("%s: %v, %v, not %v", said("Is", p, a), is, e, wanted)
	}
}

func wantRadical(t *testing.T, a []int, p int, wanted []int) {
	t.Helper()
	if radical, e := fsqf.Radical(a, p); e != api.OK || !slices.Equal(radical, wanted) {
		t.Fatalf("%s: %v, %v, not %v", said("Radical", p, a), radical, e, wanted)
	}
}

func wantParts(t *testing.T, a []int, p int, wanted []fsqf.Part) {
	t.Helper()
	if parts, e := fsqf.Parts(a, p); e != api.OK || !same(parts, wanted) {
		t.Fatalf("%s: %v, %v, not %v", said("Parts", p, a), parts, e, wanted)
	}
}

// wantError fails, unless all calls answer that error, and nothing beside it.
func wantError(t *testing.T, a []int, p int, wanted api.Errno) {
	t.Helper()
	is, e := fsqf.Is(a, p)
	radical, f := fsqf.Radical(a, p)
	parts, g := fsqf.Parts(a, p)
	if e != wanted || f != wanted || g != wanted {
		t.Errorf("%s: %v, %v, %v, not %v", said("", p, a), e, f, g, wanted)
	}
	if is || radical != nil || parts != nil {
		t.Errorf("%s: %v, %v, %v beside the error", said("", p, a), is, radical, parts)
	}
}

// asked is a call, and what was handed to it. It is told only when a test fails: long polynomials take their time.
type asked struct {
	name string
	p    int
	a    []int
}

func said(name string, p int, a []int) asked { return asked{name, p, a} }

func (a asked) String() string { return fmt.Sprintf("%s%v by %d", a.name, a.a, a.p) }
