package zgcd_test

import (
	"slices"
	"testing"

	"cleaver/api"
	"cleaver/zgcd"
)

// answers are the polynomials that all calls make of two, the errors left out; a resultant stands in one of degree 1.
func answers(a, b []api.Int) [][]api.Int {
	quotient, rest, _ := zgcd.Pseudo(a, b)
	back, left, _ := zgcd.Pseudo(b, a)
	number, _ := zgcd.Resultant(a, b)
	return [][]api.Int{quotient, rest, back, left, zgcd.Gcd(a, b), zgcd.Gcd(b, a), {number, small(1)}}
}

// roomy is a list with memory behind it, and behind each of its numbers, which is none of anyone's business.
func roomy(a []api.Int) []api.Int {
	z := make([]api.Int, len(a), len(a)+2)
	for i, c := range a {
		z[i] = api.Int{Neg: c.Neg, Abs: append(slices.Clone(c.Abs), 11, 12)[:len(c.Abs)]}
	}
	return append(z, small(11), small(12))[:len(a)]
}

// isUntouched tells that a roomy list is still what it was made of.
func isUntouched(roomy, a []api.Int) bool {
	behind := roomy[:len(a)+2][len(a):]
	return slices.EqualFunc(roomy, a, isUntouchedInt) && same(behind, poly(11, 12))
}

func isUntouchedInt(roomy, a api.Int) bool {
	n := len(a.Abs)
	return sameInt(roomy, a) && slices.Equal(roomy.Abs[:n+2][n:], []uint64{11, 12})
}

// scribble overwrites a list and its numbers as far as their memory goes, and tells whether each number was still what it had been
// when its turn came: so no two of them share memory.
func scribble(l []api.Int) bool {
	kept, alone := make([]api.Int, len(l)), true
	for i, c := range l {
		kept[i] = api.Int{Neg: c.Neg, Abs: slices.Clone(c.Abs)}
	}
	for i := range l {
		alone = alone && sameInt(l[i], kept[i])
		limbs := l[i].Abs[:cap(l[i].Abs)]
		for j := range limbs {
			limbs[j] = 0xdead
		}
	}
	l = l[:cap(l)]
	for i := range l {
		l[i] = small(0xdead)
	}
	return alone
}

// R3: what is handed in is not changed, and no answer shares memory with it, with another one, or within itself.
func TestMemoryIsNew(t *testing.T) {
	pairs(func(a, b []api.Int) {
		x, y := roomy(a), roomy(b)
		lists, kept := answers(x, y), answers(a, b)
		for i, l := range lists {
			if !same(l, kept[i]) {
				t.Fatalf("answer %d: shares memory, or is not the same twice: %s", i, said("", a, b))
			}
			if !scribble(l) {
				t.Fatalf("answer %d: two of its numbers share memory: %s", i, said("", a, b))
			}
		}
		if !isUntouched(x, a) || !isUntouched(y, b) {
			t.Fatalf("what was handed in has changed: %s", said("", a, b))
		}
	})
}

// The same list as both arguments is no matter.
func TestSameListTwice(t *testing.T) {
	pairs(func(a, _ []api.Int) {
		alike, apart := answers(a, a), answers(a, roomy(a))
		for i := range alike {
			if !same(alike[i], apart[i]) {
				t.Fatalf("answer %d: %s", i, said("", a))
			}
		}
	})
}

// R4: polynomials that are not plain are taken as what they are, and answered plain.
func TestNotPlain(t *testing.T) {
	behind := []api.Int{{Neg: true}, {Abs: []uint64{0, 0}}}
	pairs(func(a, b []api.Int) {
		wanted := answers(norm(a), norm(b))
		for _, got := range [][][]api.Int{answers(a, b), answers(slices.Concat(a, behind), b), answers(a, slices.Concat(b, behind))} {
			for i, l := range got {
				if !same(l, wanted[i]) || !same(l, norm(l)) {
					t.Fatalf("answer %d: %s: %s, %s", i, said("", a, b), text(l), text(wanted[i]))
				}
			}
		}
	})
}

// P1: numbers as long as they may be are gone through in the end.
func TestLongNumbers(t *testing.T) {
	great := api.Int{Neg: true, Abs: slices.Repeat([]uint64{most}, api.MaxLimbs)}
	for _, l := range answers([]api.Int{small(5), great, great}, []api.Int{small(3), great}) {
		if !same(l, norm(l)) {
			t.Error("an answer is not plain")
		}
	}
}
