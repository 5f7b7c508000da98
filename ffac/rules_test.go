package ffac_test

import (
	"slices"
	"testing"

	"cleaver/api"
	"cleaver/ffac"
)

// answers are the lists that all calls make of a polynomial, the errors left out; the last one tells the numbers.
func answers(a []int, p int, draws []int) [][]int {
	is, _ := ffac.Irreducible(a, p)
	products, _ := ffac.Degrees(a, p)
	single, _ := ffac.Split(a, p, draws)
	factors, _ := ffac.Factors(a, p, draws)
	lists, numbers := append(slices.Clone(products), single...), []int{0, len(products), len(single), len(factors)}
	if is {
		numbers[0] = 1
	}
	for _, f := range factors {
		lists, numbers = append(lists, f.P), append(numbers, f.N)
	}
	return append(lists, numbers)
}

// roomy is a list with memory behind it, which is none of anyone's business.
func roomy(a []int) []int { return append(slices.Clone(a), 11, 12)[:len(a)] }

// isUntouched tells that a roomy list is still what it was made of.
func isUntouched(roomy, a []int) bool {
	return slices.Equal(roomy, a) && slices.Equal(roomy[:len(a)+2][len(a):], []int{11, 12})
}

// scribble overwrites a list as far as its memory goes.
func scribble(l []int) {
	l = l[:cap(l)]
	for i := range l {
		l[i] = 0xdead
	}
}

// R3: what is handed in is not changed, and no answer shares memory with it, with another one, or with one of a later call.
func TestMemoryIsNew(t *testing.T) {
	m := newMaker(6)
	few(func(a []int, _ []factor, p int) {
		draws := m.draws(p)
		x, y := roomy(a), roomy(draws)
		lists := answers(x, p, y)
		var kept [][]int
		for _, l := range lists {
			kept = append(kept, slices.Clone(l))
		}
		later := answers(a, p, draws)
		for i, l := range lists {
			if !slices.Equal(l, kept[i]) {
				t.Fatalf("answer %d: shares memory: %s", i, said("", p, a))
			}
			scribble(l)
		}
		if !alike(later, kept) || !alike(answers(a, p, draws), kept) {
			t.Fatalf("not the same twice: %s", said("", p, a))
		}
		if !isUntouched(x, a) || !isUntouched(y, draws) {
			t.Fatalf("what was handed in has changed: %s", said("", p, a))
		}
	})
}

// Nor are the lists of an answer kept for another one.
func TestListsOfListsAreNew(t *testing.T) {
	a := []int{0, 2, 0, 1}
	for range 3 {
		wantSplit(t, a, 3, nil, [][]int{{0, 1}, {1, 1}, {2, 1}})
		single, _ := ffac.Split(a, 3, nil)
		clear(single[:cap(single)])
		wantDegrees(t, a, 3, [][]int{a, {1}, {1}})
		products, _ := ffac.Degrees(a, 3)
		clear(products[:cap(products)])
		wantFactors(t, a, 3, nil, []factor{{[]int{0, 1}, 1}, {[]int{1, 1}, 1}, {[]int{2, 1}, 1}})
		factors, _ := ffac.Factors(a, 3, nil)
		clear(factors[:cap(factors)])
	}
}

// Less changes neither of its polynomials.
func TestLessChangesNothing(t *testing.T) {
	for _, c := range [][2][]int{{{1, 0, 0}, {0, 1, 0}}, {{1}, {0, 0}}, {{-5, 70}, {-5, 70}}} {
		a, b := roomy(c[0]), roomy(c[1])
		ffac.Less(a, b)
		ffac.Less(a, a)
		if !isUntouched(a, c[0]) || !isUntouched(b, c[1]) {
			t.Error(c)
		}
	}
}

// R4: polynomials that are not plain are taken by their rests.
func TestNotPlain(t *testing.T) {
	m := newMaker(7)
	few(func(a []int, _ []factor, p int) {
		wanted := answers(norm(a, p), p, nil)
		for _, other := range [][]int{a, m.unplain(norm(a, p), p)} {
			if got := answers(other, p, nil); !alike(got, wanted) {
				t.Fatalf("%s: %v, not %v", said("", p, other), got, wanted)
			}
		}
	})
}

// P1: long ones are gone through in the end: polynomials of low degree with noughts, or multiples of p, behind them, and
// draws without end.
func TestLongOnes(t *testing.T) {
	for _, p := range []int{2, 3, 251, 65521} {
		a := append([]int{0, 1, 1}, make([]int, 100_000)...)
		for i := 3; i < len(a); i++ {
			a[i] = i * p
		}
		wantSplit(t, a, p, make([]int, 1_000_000), [][]int{{0, 1}, {1, 1}})
		wantDegrees(t, a, p, [][]int{{0, 1, 1}, {1}})
		wantError(t, append(a, 1), p, api.ErrLimit, api.ErrLimit)
	}
}
