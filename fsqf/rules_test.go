package fsqf_test

import (
	"slices"
	"testing"

	"cleaver/api"
	"cleaver/fsqf"
)

// answers are the lists that all calls make of a polynomial, the errors left out; the last one tells the numbers.
func answers(a []int, p int) [][]int {
	is, _ := fsqf.Is(a, p)
	radical, _ := fsqf.Radical(a, p)
	parts, _ := fsqf.Parts(a, p)
	lists, numbers := [][]int{radical}, []int{0}
	if is {
		numbers[0] = 1
	}
	for _, part := range parts {
		lists, numbers = append(lists, part.P), append(numbers, part.N)
	}
	return append(lists, numbers)
}

// alike: are the lists the same?
func alike(a, b [][]int) bool { return slices.EqualFunc(a, b, slices.Equal[[]int]) }

// roomy is a list with memory behind it, which is none of anyone's business.
func roomy(a []int) []int { return append(slices.Clone(a), 11, 12)[:len(a)] }

// isUntouched tells that a roomy list is still what it was made of.
func isUntouched(roomy, a []int) bool {
	return slices.Equal(roomy, a) && slices.Equal(roomy[:len(a)+2][len(a):], []int{11, 12})
}

// scribble overwrites a list as far as its memory goes.
func scribble(l []int) {
	l = l[:cap(l)]
	for i := range l {
		l[i] = 0xdead
	}
}

// R3: what is handed in is not changed, and no answer shares memory with it, with another one, or with one of a later call.
func TestMemoryIsNew(t *testing.T) {
	some(func(a []int, _ []factor, p int) {
		x := roomy(a)
		lists := answers(x, p)
		var kept [][]int
		for _, l := range lists {
			kept = append(kept, slices.Clone(l))
		}
		later := answers(a, p)
		for i, l := range lists {
			if !slices.Equal(l, kept[i]) {
				t.Fatalf("answer %d: shares memory: %s", i, said("", p, a))
			}
			scribble(l)
		}
		if !alike(later, kept) || !alike(answers(a, p), kept) {
			t.Fatalf("not the same twice: %s", said("", p, a))
		}
		if !isUntouched(x, a) {
			t.Fatalf("what was handed in has changed: %s", said("", p, a))
		}
	})
}

// Nor are the parts of an answer kept in the list of those of another one.
func TestListsOfPartsAreNew(t *testing.T) {
	a := []int{0, 0, 0, 1, 1}
	wanted := []fsqf.Part{{P: []int{1, 1}, N: 1}, {P: []int{0, 1}, N: 3}}
	for range 3 {
		wantParts(t, a, 3, wanted)
		parts, _ := fsqf.Parts(a, 3)
		clear(parts[:cap(parts)])
	}
}

// R4: polynomials that are not plain are taken by their rests.
func TestNotPlain(t *testing.T) {
	m := newMaker(3)
	some(func(a []int, _ []factor, p int) {
		wanted := answers(norm(a, p), p)
		if got := answers(a, p); !alike(got, wanted) {
			t.Fatalf("%s: %v, not %v", said("", p, a), got, wanted)
		}
		if other := m.unplain(norm(a, p), p); !alike(answers(other, p), wanted) {
			t.Fatalf("%s: %v, not %v", said("", p, other), answers(other, p), wanted)
		}
	})
}

// P1: long ones are gone through in the end.
func TestLongOnes(t *testing.T) {
	for _, p := range []int{2, 3, 251, 65521} {
		lone := append(make([]int, 2000), 1)
		wantParts(t, lone, p, []fsqf.Part{{P: []int{0, 1}, N: 2000}})
		wantRadical(t, lone, p, []int{0, 1})
		factors := []factor{{[]int{1, 1}, 300}, {[]int{0, 1}, 729}, {[]int{1, 1, 0, 1}, 64}}
		if p == 3 {
			factors = factors[:2]
		}
		if p > 3 {
			factors[2].f = []int{2, 1}
		}
		a := append(put(p-1, factors, p), make([]int, 5000)...)
		wantParts(t, a, p, partsOf(factors, p))
		wantIs(t, a, p, false)
	}
	m := newMaker(4)
	for _, p := range []int{2, 65521} {
		a := []int{1}
		for range 1500 {
			a = append(a, m.IntN(p))
		}
		if _, e := fsqf.Parts(append(a, 1), p); e != api.OK {
			t.Errorf("by %d: %v", p, e)
		}
	}
}
