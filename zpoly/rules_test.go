package zpoly_test

import (
	"slices"
	"testing"

	"cleaver/api"
	"cleaver/zpoly"
)

// answers are the polynomials that all calls make of these, the errors left out; a number stands in one of degree 1.
func answers(a, b []api.Int, c api.Int) [][]api.Int {
	product := zpoly.Mul(a, b)
	exact, _ := zpoly.Div(product, b)
	perhaps, _ := zpoly.Div(a, b)
	return [][]api.Int{
		zpoly.Norm(a), zpoly.Norm(b), zpoly.Add(a, b), zpoly.Sub(a, b), zpoly.Sub(b, a), product, exact, perhaps, zpoly.Scale(a, c), zpoly.Deriv(a), {zpoly.Eval(a, c), small(1)},
		zpoly.Shift(a, c), {zpoly.Content(a), small(1)}, zpoly.Prim(a), zpoly.Prim(b),
	}
}

// roomy is a list with memory behind it, and behind each of its numbers, which is none of anyone's business.
func roomy(a []api.Int) []api.Int {
	z := make([]api.Int, len(a), len(a)+2)
	for i, c := range a {
		z[i] = roomyInt(c)
	}
	return append(z, small(11), small(12))[:len(a)]
}

func roomyInt(a api.Int) api.Int {
	return api.Int{Neg: a.Neg, Abs: append(slices.Clone(a.Abs), 11, 12)[:len(a.Abs)]}
}

// isUntouched tells that a roomy list is still what it was made of.
func isUntouched(roomy, a []api.Int) bool {
	behind := roomy[:len(a)+2][len(a):]
	return slices.EqualFunc(roomy, a, isUntouchedInt) && same(behind, poly(11, 12))
}

func isUntouchedInt(roomy, a api.Int) bool {
	n := len(a.Abs)
	return sameInt(roomy, a) && slices.Equal(roomy.Abs[:n+2][n:], []uint64{11, 12})
}

// scribble overwrites a list and its numbers as far as their memory goes, and tells whether each number was still what it had been
// when its turn came: so no two of them share memory.
func scribble(l []api.Int) bool {
	kept, alone := make([]api.Int, len(l)), true
	for i, c := range l {
		kept[i] = api.Int{Neg: c.Neg, Abs: slices.Clone(c.Abs)}
	}
	for i := range l {
		alone = alone && sameInt(l[i], kept[i])
		limbs := l[i].Abs[:cap(l[i].Abs)]
		for j := range limbs {
			limbs[j] = 0xdead
		}
	}
	l = l[:cap(l)]
	for i := range l {
		l[i] = small(0xdead)
	}
	return alone
}

// R3: what is handed in is not changed, and no answer shares memory with it, with another one, or within itself.
func TestMemoryIsNew(t *testing.T) {
	m := newMaker(10)
	pairs(func(a, b []api.Int) {
		c := m.number()
		x, y, n := roomy(a), roomy(b), roomyInt(c)
		lists, kept := answers(x, y, n), answers(a, b, c)
		rests, _ := zpoly.Mod(x, 7)
		zpoly.Less(x, y)
		for i, l := range lists {
			if !same(l, kept[i]) {
				t.Fatalf("answer %d: shares memory, or is not the same twice: %s", i, said("", a, b, c))
			}
			if !scribble(l) {
				t.Fatalf("answer %d: two of its numbers share memory: %s", i, said("", a, b, c))
			}
		}
		for i := range rests {
			rests[i] = -1
		}
		if !isUntouched(x, a) || !isUntouched(y, b) || !isUntouchedInt(n, c) {
			t.Fatalf("what was handed in has changed: %s", said("", a, b, c))
		}
	})
}

func TestListsOfNumbersAreKept(t *testing.T) {
	l := []int{3, 0, -5, 0, 9, 9}[:4]
	of, lifted := zpoly.Of(l...), zpoly.Lift(l)
	scribble(of)
	want(t, "Lift", lifted, poly(3, 0, -5))
	if !scribble(lifted) || !slices.Equal(l[:6], []int{3, 0, -5, 0, 9, 9}) {
		t.Errorf("what was handed in has changed: %v", l)
	}
}

// The same list as both arguments is no matter.
func TestSameListTwice(t *testing.T) {
	pairs(func(a, _ []api.Int) {
		alike, apart := answers(a, a, small(3)), answers(a, roomy(a), small(3))
		for i := range alike {
			if !same(alike[i], apart[i]) {
				t.Fatalf("answer %d: %s", i, said("", a))
			}
		}
	})
}

// R4: polynomials that are not plain are taken as what they are, and answered plain; so are numbers.
func TestNotPlain(t *testing.T) {
	m := newMaker(11)
	pairs(func(a, b []api.Int) {
		c := m.number()
		long := append(slices.Clone(a), api.Int{Neg: true}, api.Int{Abs: []uint64{0, 0}})
		got, wanted := answers(long, b, c), answers(plain(values(a)), plain(values(b)), of(value(c)))
		for i, l := range got {
			if !same(l, wanted[i]) || !same(l, plain(values(l))) {
				t.Fatalf("answer %d: %s: %s, %s", i, said("", a, b, c), text(l), text(wanted[i]))
			}
		}
	})
}

// P1: long lists, and long numbers, are gone through in the end.
func TestLongOnes(t *testing.T) {
	m := newMaker(12)
	a, b := make([]api.Int, 900), make([]api.Int, 400)
	for _, l := range [][]api.Int{a, b} {
		for i := range l {
			l[i] = small(1 + m.IntN(1000))
		}
	}
	if q, e := zpoly.Div(zpoly.Mul(a, b), a); e != api.OK || !same(q, b) {
		t.Errorf("a b by a: %v", e)
	}
	back := zpoly.Shift(zpoly.Shift(a, small(-2)), small(2))
	want(t, "there and back", back, a)
	great := api.Int{Neg: true, Abs: slices.Repeat([]uint64{most}, api.MaxLimbs)}
	for _, l := range answers([]api.Int{great, small(5), great}, []api.Int{small(3), great}, great) {
		if !same(l, plain(values(l))) {
			t.Error("an answer is not plain")
		}
	}
	sparse := append(make([]api.Int, 20000), small(1))
	want(t, "a power of x", zpoly.Mul(sparse, poly(0, 0, 1)), append(make([]api.Int, 20002), small(1)))
}
