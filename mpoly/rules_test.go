package mpoly_test

import (
	"math"
	"slices"
	"testing"

	"cleaver/api"
	"cleaver/mpoly"
)

// answers are the polynomials that all calls make of these, the errors left out.
func answers(n int, a, b []api.Term, c api.Int) [][]api.Term {
	var lists [][]api.Term
	add := func(z []api.Term, _ api.Errno) { lists = append(lists, z) }
	add(mpoly.Norm(n, a))
	add(mpoly.Add(n, a, b))
	add(mpoly.Add(n, a, nil))
	add(mpoly.Add(n, nil, b))
	add(mpoly.Sub(n, a, b))
	add(mpoly.Sub(n, nil, b))
	add(mpoly.Sub(n, a, nil))
	add(mpoly.Mul(n, a, b))
	add(mpoly.Mul(n, a, []api.Term{term(1, make([]int, max(n, 0))...)}))
	add(mpoly.Div(n, a, b))
	add(mpoly.Div(n, a, []api.Term{term(1, make([]int, max(n, 0))...)}))
	add(mpoly.Const(n, c))
	for i := range n {
		add(mpoly.Var(n, i))
		add(mpoly.Deriv(n, a, i))
		add(mpoly.Eval(n, a, i, c))
		add(mpoly.Eval(n, a, i, small(1)))
	}
	content, prim, _ := mpoly.Prim(n, a)
	add(append(prim, api.Term{C: content, E: []int{1}}), api.OK)
	content, prim, _ = mpoly.Prim(n, b)
	add(append(prim, api.Term{C: content, E: []int{1}}), api.OK)
	return lists
}

// roomy is a list with memory behind it, and behind each of its numbers and exponents, which is none of anyone's business.
func roomy(a []api.Term) []api.Term {
	z := make([]api.Term, len(a), len(a)+2)
	for i, t := range a {
		z[i] = api.Term{C: roomyInt(t.C), E: append(slices.Clone(t.E), 11, 12)[:len(t.E)]}
	}
	return append(z, term(11), term(12))[:len(a)]
}

func roomyInt(a api.Int) api.Int {
	return api.Int{Neg: a.Neg, Abs: append(slices.Clone(a.Abs), 11, 12)[:len(a.Abs)]}
}

// isUntouched tells that a roomy list is still what it was made of.
func isUntouched(roomy, a []api.Term) bool {
	behind := roomy[:len(a)+2][len(a):]
	return slices.EqualFunc(roomy, a, isUntouchedTerm) && same(behind, []api.Term{term(11), term(12)})
}

func isUntouchedTerm(roomy, a api.Term) bool {
	n := len(a.E)
	return isUntouchedInt(roomy.C, a.C) && slices.Equal(roomy.E, a.E) && slices.Equal(roomy.E[:n+2][n:], []int{11, 12})
}

func isUntouchedInt(roomy, a api.Int) bool {
	n := len(a.Abs)
	return sameInt(roomy, a) && slices.Equal(roomy.Abs[:n+2][n:], []uint64{11, 12})
}

// scribble overwrites a list, its numbers and exponents as far as their memory goes, and tells whether each term was still what it had
// been when its turn came: so no two of them share memory.
func scribble(l []api.Term) bool {
	kept, alone := make([]api.Term, len(l)), true
	for i, t := range l {
		kept[i] = api.Term{C: api.Int{Neg: t.C.Neg, Abs: slices.Clone(t.C.Abs)}, E: slices.Clone(t.E)}
	}
	for i := range l {
		alone = alone && sameTerm(l[i], kept[i])
		limbs, e := l[i].C.Abs[:cap(l[i].C.Abs)], l[i].E[:cap(l[i].E)]
		for j := range limbs {
			limbs[j] = 0xdead
		}
		for j := range e {
			e[j] = 0xdead
		}
	}
	l = l[:cap(l)]
	for i := range l {
		l[i] = term(0xdead)
	}
	return alone
}

// R3: what is handed in is not changed, and no answer shares memory with it, with another one, or within itself.
func TestMemoryIsNew(t *testing.T) {
	m := newMaker(12)
	pairs(func(n int, a, b []api.Term) {
		c := m.number()
		x, y, number := roomy(a), roomy(b), roomyInt(c)
		lists, kept := answers(n, x, y, number), answers(n, a, b, c)
		mpoly.Less(x, y)
		mpoly.Check(n, x)
		for i, l := range lists {
			if !same(l, kept[i]) {
				t.Fatalf("answer %d: shares memory, or is not the same twice: %s", i, said("", n, a, b, c))
			}
			if !scribble(l) {
				t.Fatalf("answer %d: two of its parts share memory: %s", i, said("", n, a, b, c))
			}
		}
		if !isUntouched(x, a) || !isUntouched(y, b) || !isUntouchedInt(number, c) {
			t.Fatalf("what was handed in has changed: %s", said("", n, a, b, c))
		}
	})
}

// The same list as both arguments is no matter.
func TestSameListTwice(t *testing.T) {
	pairs(func(n int, a, _ []api.Term) {
		alike, apart := answers(n, a, a, small(3)), answers(n, a, roomy(a), small(3))
		for i := range alike {
			if !same(alike[i], apart[i]) {
				t.Fatalf("answer %d: %s", i, said("", n, a))
			}
		}
	})
}

// R4: polynomials that are not plain are taken as what they are, and answered plain; so are numbers.
func TestNotPlain(t *testing.T) {
	m := newMaker(13)
	pairs(func(n int, a, b []api.Term) {
		c := m.number()
		high := slices.Repeat([]int{api.MaxExp}, n)
		long := append(slices.Clone(a), api.Term{C: api.Int{Neg: true}, E: high}, term(5, high...), api.Term{C: api.Int{Neg: true, Abs: []uint64{5, 0}}, E: high})
		got, wanted := answers(n, long, b, c), answers(n, norm(n, a), norm(n, b), of(value(c)))
		for i, l := range got {
			if !same(l, wanted[i]) {
				t.Fatalf("answer %d: %s: %s, %s", i, said("", n, a, b, c), text(l), text(wanted[i]))
			}
		}
	})
}

// P1: all that may be handed in, be it ever so wrong, is answered.
func TestAnyArguments(t *testing.T) {
	ends := []int{math.MinInt, -1, 0, 1, 2, 6, 7, 1000, 1001, math.MaxInt}
	m := newMaker(14)
	for _, n := range ends {
		for range 60 {
			lists := make([][]api.Term, 2)
			for k := range lists {
				for range m.IntN(4) {
					e := make([]int, m.IntN(8))
					for i := range e {
						e[i] = ends[m.IntN(len(ends))]
					}
					lists[k] = append(lists[k], api.Term{C: m.number(), E: e})
				}
			}
			mpoly.Less(lists[0], lists[1])
			for _, i := range ends {
				for name, call := range calls(n, lists[0], lists[1], i) {
					if a, e := call(); e != api.OK && len(a) > 0 {
						t.Fatalf("%s: %s beside %v", said(name, n, lists[0], lists[1], i), text(a), e)
					}
				}
			}
		}
	}
}

// P1: long lists, and long numbers, are gone through in the end.
func TestLongOnes(t *testing.T) {
	m := newMaker(15)
	great := api.Int{Neg: true, Abs: slices.Repeat([]uint64{most}, api.MaxLimbs)}
	a := []api.Term{{C: great, E: []int{700, 3}}, {C: great, E: []int{1, 900}}, term(5, 0, 0)}
	b := []api.Term{{C: great, E: []int{0, 30}}, term(-1, 1, 1)}
	product, e := mpoly.Mul(2, a, b)
	want(t, "Mul of great ones", product, e, times(2, a, b))
	z, e := mpoly.Div(2, product, b)
	want(t, "Div of great ones", z, e, norm(2, a))
	full, other := grid(2, 63), m.unlike(2, 4, 40)
	for k := range full {
		full[k].C = small(1 + m.IntN(1000))
	}
	product, e = mpoly.Mul(2, full, []api.Term{term(7, 900, 900)})
	want(t, "Mul of a long one", product, e, times(2, full, []api.Term{term(7, 900, 900)}))
	if z, e := mpoly.Div(2, full, other); e == api.OK {
		want(t, "there and back", times(2, z, other), e, norm(2, full))
	}
}
