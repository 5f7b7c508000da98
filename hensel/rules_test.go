package hensel_test

import (
	"slices"
	"testing"

	"cleaver/api"
	"cleaver/hensel"
)

// answers are the polynomials that all calls but Lift make of these, the errors left out; a power stands in one of degree 1.
func answers(a, b []api.Int, m api.Int, p, k int) [][]api.Int {
	red, _ := hensel.Red(a, m)
	near, _ := hensel.Near(a, m)
	product, _ := hensel.Mul(a, b, m)
	q, r, _ := hensel.Div(a, b, m)
	power, _ := hensel.Power(p, k)
	return [][]api.Int{red, near, product, q, r, {power, small(1)}}
}

// roomy is a list with memory behind it, and behind each of its numbers, which is none of anyone's business.
func roomy(a []api.Int) []api.Int {
	z := make([]api.Int, len(a), len(a)+2)
	for i, c := range a {
		z[i] = roomyInt(c)
	}
	return append(z, small(11), small(12))[:len(a)]
}

func roomyInt(a api.Int) api.Int {
	return api.Int{Neg: a.Neg, Abs: append(slices.Clone(a.Abs), 11, 12)[:len(a.Abs)]}
}

// roomyLists are lists of ints with memory behind each, and behind all of them.
func roomyLists(l [][]int) [][]int {
	z := make([][]int, 0, len(l)+1)
	for _, f := range l {
		z = append(z, append(slices.Clone(f), 11, 12)[:len(f)])
	}
	return append(z, []int{11})[:len(l)]
}

// isUntouched tells that a roomy list is still what it was made of.
func isUntouched(roomy, a []api.Int) bool {
	behind := roomy[:len(a)+2][len(a):]
	return slices.EqualFunc(roomy, a, isUntouchedInt) && same(behind, poly(11, 12))
}

func isUntouchedInt(roomy, a api.Int) bool {
	n := len(a.Abs)
	return sameInt(roomy, a) && slices.Equal(roomy.Abs[:n+2][n:], []uint64{11, 12})
}

func areUntouched(roomy, l [][]int) bool {
	behind := roomy[:len(l)+1][len(l)]
	return slices.Equal(behind, []int{11}) && slices.EqualFunc(roomy, l, func(x, f []int) bool {
		return slices.Equal(x, f) && slices.Equal(x[:len(f)+2][len(f):], []int{11, 12})
	})
}

// scribble overwrites a list and its numbers as far as their memory goes, and tells whether each number was still what it had been
// when its turn came: so no two of them share memory.
func scribble(l []api.Int) bool {
	kept, alone := make([]api.Int, len(l)), true
	for i, c := range l {
		kept[i] = api.Int{Neg: c.Neg, Abs: slices.Clone(c.Abs)}
	}
	for i := range l {
		alone = alone && sameInt(l[i], kept[i])
		limbs := l[i].Abs[:cap(l[i].Abs)]
		for j := range limbs {
			limbs[j] = 0xdead
		}
	}
	l = l[:cap(l)]
	for i := range l {
		l[i] = small(0xdead)
	}
	return alone
}

// checkNew scribbles over one answer after another, each of which must be till then what it is when asked for apart.
func checkNew(t *testing.T, lists, kept [][]api.Int, what asked) {
	t.Helper()
	if len(lists) != len(kept) {
		t.Fatalf("not the same twice: %s", what)
	}
	for i, l := range lists {
		if !same(l, kept[i]) {
			t.Fatalf("answer %d: shares memory, or is not the same twice: %s", i, what)
		}
		if !scribble(l) {
			t.Fatalf("answer %d: two of its numbers share memory: %s", i, what)
		}
	}
}

// R3: what is handed in is not changed, and no answer shares memory with it, with another one, or within itself.
func TestMemoryIsNew(t *testing.T) {
	pairs(func(a, b []api.Int, m api.Int) {
		x, y, n := roomy(a), roomy(b), roomyInt(m)
		what := said("", a, b, m)
		checkNew(t, answers(x, y, n, 7, 20), answers(a, b, m, 7, 20), what)
		if !isUntouched(x, a) || !isUntouched(y, b) || !isUntouchedInt(n, m) {
			t.Fatalf("what was handed in has changed: %s", what)
		}
	})
}

func TestMemoryOfLiftIsNew(t *testing.T) {
	many(func(c known) {
		for _, k := range []int{1, 2, c.k} {
			x, l, what := roomy(c.a), roomyLists(c.l), said("Lift", c.a, c.l, c.p, k)
			z, _ := hensel.Lift(x, l, c.p, k)
			kept, _ := hensel.Lift(c.a, c.l, c.p, k)
			checkNew(t, z, kept, what)
			if clear(z[:cap(z)]); !isUntouched(x, c.a) || !areUntouched(l, c.l) {
				t.Fatalf("what was handed in has changed: %s", what)
			}
		}
	})
}

// Nor is a list kept from one call to the next one, or what it was made of.
func TestLiftIsNotKept(t *testing.T) {
	a, l := poly(1, 0, 1), [][]int{{2, 1}, {3, 1}}
	for range 3 {
		z := wantLift(t, a, l, 5, 2)
		if !alike(z, [][]api.Int{poly(7, 1), poly(18, 1)}) {
			t.Error(z)
		}
		for _, f := range z {
			scribble(f)
		}
	}
}

// The same list as several arguments is no matter.
func TestSameListTwice(t *testing.T) {
	for _, m := range moduli() {
		for _, a := range edges() {
			alike, apart := answers(a, a, m, 2, 3), answers(a, roomy(a), roomyInt(m), 2, 3)
			for i := range alike {
				if !same(alike[i], apart[i]) {
					t.Fatalf("answer %d: %s", i, said("", a, m))
				}
			}
		}
	}
	shared := []int{2, 1}
	wantNoLift(t, poly(4, 4, 1), [][]int{shared, shared}, 5, 2, api.ErrArg)
}

// R4: things that are not plain are taken as what they are, and answered plain.
func TestNotPlain(t *testing.T) {
	r := newMaker(8)
	pairs(func(a, b []api.Int, m api.Int) {
		got, wanted := answers(r.unplain(a), r.unplain(b), api.Int{Abs: append(slices.Clone(m.Abs), 0, 0)}, 5, 4), answers(norm(a), norm(b), of(value(m)), 5, 4)
		for i, l := range got {
			if !same(l, wanted[i]) || !same(l, norm(l)) {
				t.Fatalf("answer %d: %s: %s, %s", i, said("", a, b, m), text(l), text(wanted[i]))
			}
		}
	})
	many(func(c known) {
		z, _ := hensel.Lift(norm(c.a), c.l, c.p, c.k)
		if other, e := hensel.Lift(append(slices.Clone(c.a), make([]api.Int, 70)...), c.l, c.p, c.k); e != api.OK || !alike(z, other) {
			t.Fatal(said("Lift", c.a, c.l, c.p, c.k))
		}
	})
}

// P1: long numbers, and long lists, are gone through in the end.
func TestLongNumbers(t *testing.T) {
	great := api.Int{Neg: true, Abs: slices.Repeat([]uint64{most}, api.MaxLimbs)} // 2^(2^18) - 1, which is 0 by 3, and below 0
	wantLift(t, []api.Int{small(2), great, small(1)}, [][]int{{1, 1}, {2, 1}}, 3, 1000)
	wantLift(t, []api.Int{great, {}, great, great}, [][]int{intsBy(monicBy([]api.Int{great, {}, great, great}, powerOf(7, 1)), 7)}, 7, 100)
	checkDiv(t, []api.Int{great, small(5), great}, []api.Int{great, small(1)}, api.Int{Abs: append(slices.Clone(great.Abs), 1)})
	for _, l := range answers([]api.Int{great, small(5), great}, []api.Int{small(3), great}, api.Int{Abs: great.Abs}, 2, 1) {
		if !same(l, norm(l)) {
			t.Error("an answer is not plain")
		}
	}
}

func TestLongLists(t *testing.T) {
	a, b := append(slices.Repeat(poly(3, 0, -1), 300), small(7)), append(slices.Repeat(poly(2), 200), small(1))
	checkDiv(t, a, b, small(10))
	checkDiv(t, append(make([]api.Int, 100000), small(1)), poly(1, 1), small(6))
	wantNoLift(t, poly(1, 0, 1), slices.Repeat([][]int{{2, 1}}, 1000000), 5, 1000, api.ErrArg)
	wantNoLift(t, poly(1, 0, 1), make([][]int, 1000000), 5, 1000, api.ErrArg)
	wantNoLift(t, poly(1, 0, 1), [][]int{append(make([]int, 5000000), 1), {1, 1}}, 5, 1000, api.ErrArg)
	lines := make([][]int, 65521)
	for i := range lines {
		lines[i] = []int{i, 1}
	}
	wantNoLift(t, append(make([]api.Int, 64), small(1)), lines, 65521, 1000, api.ErrArg)
	wantNoLift(t, make([]api.Int, 5000000), lines, 65521, 1000, api.ErrArg)
}
