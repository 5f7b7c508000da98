package zsqf_test

import (
	"slices"
	"testing"

	"cleaver/api"
	"cleaver/zsqf"
)

// answers are the polynomials that all calls make of one, the errors left out; a bound stands in one of degree 1, and
// numbers in the last one.
func answers(a []api.Int) [][]api.Int {
	is, _ := zsqf.Is(a)
	radical, _ := zsqf.Radical(a)
	parts, _ := zsqf.Parts(a)
	bound, _ := zsqf.Bound(a)
	lists, numbers := [][]api.Int{radical, {bound, small(1)}}, poly(0)
	if is {
		numbers = poly(1)
	}
	for _, part := range parts {
		lists, numbers = append(lists, part.P), append(numbers, small(part.N))
	}
	return append(lists, numbers)
}

// alike: are the lists the same?
func alike(a, b [][]api.Int) bool { return slices.EqualFunc(a, b, same) }

// roomy is a list with memory behind it, and behind each of its numbers, which is none of anyone's business.
func roomy(a []api.Int) []api.Int {
	z := make([]api.Int, len(a), len(a)+2)
	for i, c := range a {
		z[i] = api.Int{Neg: c.Neg, Abs: append(slices.Clone(c.Abs), 11, 12)[:len(c.Abs)]}
	}
	return append(z, small(11), small(12))[:len(a)]
}

// isUntouched tells that a roomy list is still what it was made of.
func isUntouched(roomy, a []api.Int) bool {
	behind := roomy[:len(a)+2][len(a):]
	return slices.EqualFunc(roomy, a, isUntouchedInt) && same(behind, poly(11, 12))
}

func isUntouchedInt(roomy, a api.Int) bool {
	n := len(a.Abs)
	return sameInt(roomy, a) && slices.Equal(roomy.Abs[:n+2][n:], []uint64{11, 12})
}

// scribble overwrites a list and its numbers as far as their memory goes, and tells whether each number was still what it had been
// when its turn came: so no two of them share memory.
func scribble(l []api.Int) bool {
	kept, alone := make([]api.Int, len(l)), true
	for i, c := range l {
		kept[i] = api.Int{Neg: c.Neg, Abs: slices.Clone(c.Abs)}
	}
	for i := range l {
		alone = alone && sameInt(l[i], kept[i])
		limbs := l[i].Abs[:cap(l[i].Abs)]
		for j := range limbs {
			limbs[j] = 0xdead
		}
	}
	l = l[:cap(l)]
	for i := range l {
		l[i] = small(0xdead)
	}
	return alone
}

// R3: what is handed in is not changed, and no answer shares memory with it, with another one, or within itself.
func TestMemoryIsNew(t *testing.T) {
	some(func(a []api.Int, _ []factor) {
		x := roomy(a)
		lists, kept := answers(x), answers(a)
		for i, l := range lists {
			if !same(l, kept[i]) {
				t.Fatalf("answer %d: shares memory, or is not the same twice: %s", i, said("", a))
			}
			if !scribble(l) {
				t.Fatalf("answer %d: two of its numbers share memory: %s", i, said("", a))
			}
		}
		if !isUntouched(x, a) {
			t.Fatalf("what was handed in has changed: %s", said("", a))
		}
	})
}

// Nor are the parts of an answer kept in the list of those of another one.
func TestListsOfPartsAreNew(t *testing.T) {
	a := poly(2, -2, -2, 2)
	wanted := []zsqf.Part{{P: poly(1, 1), N: 1}, {P: poly(-1, 1), N: 2}}
	for range 3 {
		wantParts(t, a, wanted)
		parts, _ := zsqf.Parts(a)
		clear(parts[:cap(parts)])
	}
}

// R4: polynomials that are not plain are taken as what they are, and answered plain.
func TestNotPlain(t *testing.T) {
	m := newMaker(6)
	some(func(a []api.Int, _ []factor) {
		wanted := answers(norm(a))
		for _, other := range [][]api.Int{a, m.unplain(norm(a)), append(slices.Clone(a), make([]api.Int, 70)...)} {
			got := answers(other)
			if !alike(got, wanted) {
				t.Fatalf("%s: not as it is when plain", said("", other))
			}
			for _, l := range got {
				if !same(l, norm(l)) {
					t.Fatalf("%s: %s", said("", other), text(l))
				}
			}
		}
	})
}

// P1: numbers as long as they may be are gone through in the end.
func TestLongNumbers(t *testing.T) {
	great := api.Int{Neg: true, Abs: slices.Repeat([]uint64{most}, api.MaxLimbs)}
	line := []api.Int{small(7), great} // 7 divides such a number just if 3 divides how many bits it has
	wantParts(t, times(line, line), []zsqf.Part{{P: times(line, poly(-1)), N: 2}})
	wantBound(t, line, boundOf(line))
	wantIs(t, []api.Int{small(3), great, great}, true)
}
