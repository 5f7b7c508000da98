package zfac_test

import (
	"slices"
	"testing"

	"cleaver/api"
	"cleaver/zfac"
)

// answers are the polynomials that all calls make of one, the errors left out; the content stands in one of degree 1, and
// numbers in the last one.
func answers(a []api.Int, draws []int) [][]api.Int {
	is, _ := zfac.Irreducible(a)
	lists, _ := zfac.Split(a, draws)
	content, factors, _ := zfac.Factors(a, draws)
	lists = append(lists, []api.Int{content, small(1)})
	numbers := poly(0)
	if is {
		numbers = poly(1)
	}
	for _, f := range factors {
		lists, numbers = append(lists, f.P), append(numbers, small(f.N))
	}
	return append(lists, numbers)
}

// alike: are the lists the same?
func alike(a, b [][]api.Int) bool { return slices.EqualFunc(a, b, same) }

// roomy is a list with memory behind it, and behind each of its numbers, which is none of anyone's business.
func roomy(a []api.Int) []api.Int {
	z := make([]api.Int, len(a), len(a)+2)
	for i, c := range a {
		z[i] = api.Int{Neg: c.Neg, Abs: append(slices.Clone(c.Abs), 11, 12)[:len(c.Abs)]}
	}
	return append(z, small(11), small(12))[:len(a)]
}

// isUntouched tells that a roomy list is still what it was made of.
func isUntouched(roomy, a []api.Int) bool {
	behind := roomy[:len(a)+2][len(a):]
	return same(behind, poly(11, 12)) && slices.EqualFunc(roomy, a, func(x, y api.Int) bool {
		n := len(y.Abs)
		return sameInt(x, y) && slices.Equal(x.Abs[:n+2][n:], []uint64{11, 12})
	})
}

// scribble overwrites lists and their numbers as far as their memory goes, and tells whether each number was still what it
// had been when its turn came: so no two of them share memory.
func scribble(lists [][]api.Int) bool {
	var kept [][]api.Int
	for _, l := range lists {
		kept = append(kept, norm(l))
	}
	alone := true
	for i, l := range lists {
		for j := range l {
			alone = alone && sameInt(l[j], kept[i][j])
			limbs := l[j].Abs[:cap(l[j].Abs)]
			for k := range limbs {
				limbs[k] = 0xdead
			}
		}
		l = l[:cap(l)]
		for j := range l {
			l[j] = small(0xdead)
		}
	}
	return alone
}

// ordinary calls f with polynomials, plain ones and others, some of which are refused.
func ordinary(f func(a []api.Int, draws []int)) {
	m := newMaker(11)
	for i := range 60 {
		f(m.unplain(m.product(1+m.IntN(4), 1+i%3, 16).a), []int{i, -i, i * i * i}[:i%4])
	}
	for _, a := range [][]api.Int{nil, poly(0), poly(-3), poly(1, 1), poly(4, 2), poly(1, 2, 1), binomial(8, -1), climber(2, 3, 5), binomial(65, 1), {two(1000, 0), small(1)}, {two(700, 1), {Abs: []uint64{0}}, small(1), {}}} {
		f(a, nil)
	}
}

// R3: what is handed in is not changed, and no answer shares memory with it, or with another one; nothing is kept.
func TestMemoryIsNew(t *testing.T) {
	ordinary(func(a []api.Int, draws []int) {
		kept := answers(a, draws)
		for range 2 {
			x, d := roomy(a), append(slices.Clone(draws), 5, 6)
			lists := answers(x, d[:len(draws)])
			if !alike(lists, kept) {
				t.Fatalf("%s is not the same twice: %s, %s", text(a), texts(lists), texts(kept))
			}
			numbers := len(lists) - 1 // which are not the calls' own memory
			if !scribble(lists[:numbers]) {
				t.Fatalf("%s: two numbers share memory", text(a))
			}
			if !isUntouched(x, a) || !slices.Equal(d, append(slices.Clone(draws), 5, 6)) {
				t.Fatalf("%s: what was handed in has changed", text(a))
			}
		}
	})
}

// R4: a polynomial that is not plain is taken as what it is, and answered plain.
func TestNotPlain(t *testing.T) {
	m := newMaker(12)
	ordinary(func(a []api.Int, draws []int) {
		wanted := answers(norm(a), draws)
		for _, other := range [][]api.Int{a, m.unplain(norm(a)), append(slices.Clone(a), make([]api.Int, 70)...)} {
			got := answers(other, draws)
			if !alike(got, wanted) {
				t.Fatalf("%s: not as it is when plain: %s, not %s", text(other), texts(got), texts(wanted))
			}
			for _, l := range got[:len(got)-1] {
				if !same(l, norm(l)) {
					t.Fatalf("%s: %s", text(other), text(l))
				}
			}
		}
	})
}

// P1: all arguments are gone through in the end, whatever they are.
func TestAnyArguments(t *testing.T) {
	m := newMaker(13)
	edges := []api.Int{{}, {Neg: true}, {Abs: []uint64{0}}, {Neg: true, Abs: []uint64{0, 0}}, small(1), small(-1), {Abs: []uint64{1, 0}}, small(2), small(-3), {Abs: []uint64{most}}, {Neg: true, Abs: []uint64{0, 1}}, {Abs: []uint64{5, 0, most}}}
	draws := m.someDraws()
	for i := range 4000 {
		a := make([]api.Int, m.IntN(9))
		for j := range a {
			a[j] = edges[m.IntN(len(edges))]
		}
		is, e := zfac.Irreducible(a)
		split, f := zfac.Split(a, draws[i%len(draws)])
		c, factors, g := zfac.Factors(a, draws[i%len(draws)])
		if e != g || f != e && f != api.ErrArg || e != api.OK && (is || split != nil || factors != nil || c.Abs != nil) {
			t.Fatalf("%s: %v, %v, %v", text(a), e, f, g)
		}
		if is != (len(factors) == 1 && factors[0].N == 1) || f == api.OK && !slices.EqualFunc(split, polys(factors), same) {
			t.Fatalf("%s: %v, %s, %s", text(a), is, texts(split), factorTexts(factors))
		}
	}
}

// P1: long numbers, and long lists, are gone through in the end.
func TestLongOnes(t *testing.T) {
	great := api.Int{Neg: true, Abs: slices.Repeat([]uint64{most}, api.MaxLimbs)}
	number := api.Int{Abs: great.Abs}
	seven := slices.Repeat([]api.Int{great}, 7) // so many times the circle of 7, and 0 below it
	product{a: seven, by: great, factors: once(circle(7))}.want(t, nil)
	product{a: []api.Int{great, {}, number}, by: number, factors: once(poly(-1, 1), poly(1, 1))}.want(t, nil)
	wantError(t, append([]api.Int{great}, poly(0, 1)...), nil, api.ErrLimit)
	long := append(make([]api.Int, 1000000), small(1))
	wantError(t, long, make([]int, 1000000), api.ErrLimit)
	free(1, poly(1, 1)).want(t, make([]int, 1000000))
	wantFactors(t, append(poly(1, 1), make([]api.Int, 1000000)...), nil, small(1), once(poly(1, 1)))
}
