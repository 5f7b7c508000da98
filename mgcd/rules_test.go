package mgcd_test

import (
	"math"
	"slices"
	"testing"

	"cleaver/api"
	"cleaver/mgcd"
)

// answers are the polynomials that all calls make of these, the errors left out.
func answers(n int, a, b []api.Term) [][]api.Term {
	var lists [][]api.Term
	add := func(z []api.Term, _ api.Errno) { lists = append(lists, z) }
	add(mgcd.Gcd(n, a, b))
	add(mgcd.Gcd(n, b, a))
	add(mgcd.Gcd(n, a, nil))
	add(mgcd.Gcd(n, nil, b))
	add(mgcd.Gcd(n, a, []api.Term{term(1, make([]int, max(n, 0))...)}))
	add(mgcd.Radical(n, a))
	add(mgcd.Radical(n, b))
	return lists
}

// roomy is a list with memory behind it, and behind each of its numbers and exponents, which is none of anyone's business.
func roomy(a []api.Term) []api.Term {
	z := make([]api.Term, len(a), len(a)+2)
	for i, t := range a {
		limbs := append(slices.Clone(t.C.Abs), 11, 12)[:len(t.C.Abs)]
		z[i] = api.Term{C: api.Int{Neg: t.C.Neg, Abs: limbs}, E: append(slices.Clone(t.E), 11, 12)[:len(t.E)]}
	}
	return append(z, term(11), term(12))[:len(a)]
}

// isUntouched tells that a roomy list is still what it was made of.
func isUntouched(roomy, a []api.Term) bool {
	behind := roomy[:len(a)+2][len(a):]
	return slices.EqualFunc(roomy, a, isUntouchedTerm) && same(behind, []api.Term{term(11), term(12)})
}

func isUntouchedTerm(roomy, a api.Term) bool {
	limbs, n := len(a.C.Abs), len(a.E)
	return sameTerm(roomy, a) && slices.Equal(roomy.E[:n+2][n:], []int{11, 12}) && slices.Equal(roomy.C.Abs[:limbs+2][limbs:], []uint64{11, 12})
}

// scribble overwrites a list, its numbers and exponents as far as their memory goes, and tells whether each term was still what it had
// been when its turn came: so no two of them share memory.
func scribble(l []api.Term) bool {
	kept, alone := make([]api.Term, len(l)), true
	for i, t := range l {
		kept[i] = api.Term{C: api.Int{Neg: t.C.Neg, Abs: slices.Clone(t.C.Abs)}, E: slices.Clone(t.E)}
	}
	for i := range l {
		alone = alone && sameTerm(l[i], kept[i])
		limbs, e := l[i].C.Abs[:cap(l[i].C.Abs)], l[i].E[:cap(l[i].E)]
		for j := range limbs {
			limbs[j] = 0xdead
		}
		for j := range e {
			e[j] = 0xdead
		}
	}
	l = l[:cap(l)]
	for i := range l {
		l[i] = term(0xdead)
	}
	return alone
}

// R3: what is handed in is not changed, and no answer shares memory with it, with another one, or within itself.
func TestMemoryIsNew(t *testing.T) {
	pairs(func(n int, a, b []api.Term) {
		x, y := roomy(a), roomy(b)
		lists, kept := answers(n, x, y), answers(n, a, b)
		mgcd.Is(n, x)
		for i, l := range lists {
			if !same(l, kept[i]) {
				t.Fatalf("answer %d: shares memory, or is not the same twice: %s", i, said("", n, a, b))
			}
			if !scribble(l) {
				t.Fatalf("answer %d: two of its parts share memory: %s", i, said("", n, a, b))
			}
		}
		if !isUntouched(x, a) || !isUntouched(y, b) {
			t.Fatalf("what was handed in has changed: %s", said("", n, a, b))
		}
	})
}

// The same list as both arguments is no matter.
func TestSameListTwice(t *testing.T) {
	pairs(func(n int, a, _ []api.Term) {
		alike, apart := answers(n, a, a), answers(n, a, roomy(a))
		for i := range alike {
			if !same(alike[i], apart[i]) {
				t.Fatalf("answer %d: %s", i, said("", n, a))
			}
		}
	})
}

// R4: polynomials that are not plain are taken as what they are, and answered plain; so are numbers.
func TestNotPlain(t *testing.T) {
	pairs(func(n int, a, b []api.Term) {
		high := slices.Repeat([]int{api.MaxExp}, n)
		long := append(slices.Clone(a), api.Term{C: api.Int{Neg: true}, E: high}, term(5, high...), api.Term{C: api.Int{Neg: true, Abs: []uint64{5, 0}}, E: high})
		got, wanted := answers(n, long, b), answers(n, norm(n, a), norm(n, b))
		for i, l := range got {
			if !same(l, wanted[i]) || !same(l, norm(n, l)) {
				t.Fatalf("answer %d: %s: %s, %s", i, said("", n, a, b), text(l), text(wanted[i]))
			}
		}
		whole, e := mgcd.Is(n, long)
		if z, f := mgcd.Is(n, norm(n, a)); z != whole || e != f {
			t.Fatalf("%s: %v, %v", said("Is", n, a), whole, e)
		}
	})
}

// P1: all that may be handed in, be it ever so wrong, is answered.
func TestAnyArguments(t *testing.T) {
	ends := []int{math.MinInt, -1, 0, 1, 2, 6, 7, 1000, 1001, math.MaxInt}
	m := newMaker(14)
	for _, n := range ends {
		for range 100 {
			lists := make([][]api.Term, 2)
			for k := range lists {
				for range m.IntN(4) {
					e := make([]int, []int{m.IntN(8), max(0, min(n, 8))}[m.IntN(2)])
					for i := range e {
						e[i] = ends[m.IntN(len(ends))]
					}
					lists[k] = append(lists[k], api.Term{C: m.number(), E: e})
				}
			}
			if z, e := mgcd.Gcd(n, lists[0], lists[1]); e != api.OK && len(z) > 0 {
				t.Fatalf("%s: %s beside %v", said("Gcd", n, lists[0], lists[1]), text(z), e)
			}
			if z, e := mgcd.Radical(n, lists[0]); e != api.OK && len(z) > 0 {
				t.Fatalf("%s: %s beside %v", said("Radical", n, lists[0]), text(z), e)
			}
			if z, e := mgcd.Is(n, lists[0]); e != api.OK && z {
				t.Fatalf("%s: true beside %v", said("Is", n, lists[0]), e)
			}
		}
	}
}
