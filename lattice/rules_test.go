package lattice_test

import (
	"slices"
	"testing"

	"cleaver/api"
	"cleaver/lattice"
)

// answers are the rows that all calls make of these, the errors left out; numbers stand in a row of two.
func answers(l [][]api.Int, a, b []api.Int) [][]api.Int {
	dot, _ := lattice.Dot(a, b)
	gram, _ := lattice.Gram(l)
	reduced, _ := lattice.Reduce(l)
	times, _ := lattice.In(l, a)
	return append(reduced, times, []api.Int{dot, small(1)}, []api.Int{gram, small(1)})
}

// roomy is a row with memory behind it, and behind each of its numbers, which is none of anyone's business.
func roomy(a []api.Int) []api.Int {
	z := make([]api.Int, len(a), len(a)+2)
	for i, c := range a {
		z[i] = api.Int{Neg: c.Neg, Abs: append(slices.Clone(c.Abs), 11, 12)[:len(c.Abs)]}
	}
	return append(z, small(11), small(12))[:len(a)]
}

// roomyRows are roomy rows, with one more behind them.
func roomyRows(l [][]api.Int) [][]api.Int {
	var z [][]api.Int
	for _, a := range l {
		z = append(z, roomy(a))
	}
	return append(z, row(13))[:len(l)]
}

// isUntouched tells that a roomy row is still what it was made of.
func isUntouched(roomy, a []api.Int) bool {
	behind := roomy[:len(a)+2][len(a):]
	return same(behind, row(11, 12)) && slices.EqualFunc(roomy, a, func(x, y api.Int) bool {
		n := len(y.Abs)
		return sameInt(x, y) && slices.Equal(x.Abs[:n+2][n:], []uint64{11, 12})
	})
}

func areUntouched(roomy, l [][]api.Int) bool {
	return slices.EqualFunc(roomy, l, isUntouched) && same(roomy[:len(l)+1][len(l)], row(13))
}

// scribble overwrites a row and its numbers as far as their memory goes, and tells whether each number was still what it
// had been when its turn came: so no two of them share memory.
func scribble(l []api.Int) bool {
	kept, alone := make([]api.Int, len(l)), true
	for i, c := range l {
		kept[i] = api.Int{Neg: c.Neg, Abs: slices.Clone(c.Abs)}
	}
	for i := range l {
		alone = alone && sameInt(l[i], kept[i])
		limbs := l[i].Abs[:cap(l[i].Abs)]
		for j := range limbs {
			limbs[j] = 0xdead
		}
	}
	l = l[:cap(l)]
	for i := range l {
		l[i] = small(0xdead)
	}
	return alone
}

// vectorsBy are two of as many numbers as the rows have: a sum of rows, and the last row.
func vectorsBy(l [][]api.Int) ([]api.Int, []api.Int) {
	if len(l) == 0 {
		return nil, nil
	}
	last := l[len(l)-1]
	if len(l[0]) != len(last) {
		return last, last
	}
	return plus(last, value(small(3)), l[0]), last
}

// R3: what is handed in is not changed, and no answer shares memory with it, with another one, or within itself.
func TestMemoryIsNew(t *testing.T) {
	check := func(l [][]api.Int) {
		a, b := vectorsBy(l)
		x, v, w := roomyRows(l), roomy(a), roomy(b)
		lists, kept := answers(x, v, w), answers(l, a, b)
		if !alike(lists, kept) {
			t.Fatalf("not the same twice: %s", said("", l))
		}
		for i, z := range lists {
			if !same(z, kept[i]) || !scribble(z) {
				t.Fatalf("answer %d shares memory: %s", i, said("", l))
			}
		}
		if clear(lists[:cap(lists)]); !areUntouched(x, l) || !isUntouched(v, a) || !isUntouched(w, b) {
			t.Fatalf("what was handed in has changed: %s", said("", l))
		}
	}
	fewNumbers(check)
	some(check)
}

// Nor is a basis that is reduced already kept, or handed back; nor is an answer kept for the next call.
func TestReduceIsNotKept(t *testing.T) {
	for _, l := range [][][]api.Int{rows([]int{1, 0}, []int{0, 1}), rows([]int{2, 0}, []int{1, 2}), rows([]int{5, 3}), unit(5)} {
		kept := normAll(l)
		for range 3 {
			z, e := lattice.Reduce(l)
			if e != api.OK || !alike(z, kept) || !alike(l, kept) {
				t.Fatal(said("Reduce", l, z), e)
			}
			for _, a := range z {
				scribble(a)
			}
			clear(z[:cap(z)])
		}
	}
}

// R4: numbers that are not plain are taken as what they are, and answered plain; the same numbers have the same basis.
func TestNotPlain(t *testing.T) {
	m := newMaker(11)
	check := func(l [][]api.Int) {
		a, b := vectorsBy(l)
		long := m.unplain([][]api.Int{a, b})
		got, wanted := answers(m.unplain(l), long[0], long[1]), answers(normAll(l), norm(a), norm(b))
		if !alike(got, wanted) || !alike(got, normAll(got)) {
			t.Fatal(said("", l, got, wanted))
		}
		left, e := lattice.Reduced(m.unplain(l))
		right, other := lattice.Reduced(normAll(l))
		if left != right || e != other {
			t.Fatal(said("Reduced", l))
		}
	}
	fewNumbers(check)
	some(check)
}

// The same list as several arguments, or as several rows, is no matter.
func TestSameListOften(t *testing.T) {
	m := newMaker(12)
	for n := range 10 {
		a := m.some(1, n+1, 70)[0]
		l := [][]api.Int{a}
		if !alike(answers(l, a, a), answers(roomyRows(l), roomy(a), roomy(a))) {
			t.Fatal(said("", a))
		}
		l = slices.Repeat(l, 2+n%3)
		if got := answers(l, a, a); !same(got[0], nil) || !same(got[2], row(0, 1)) {
			t.Fatal(said("", a, got))
		}
		l = unit(n + 1)
		for i := range l {
			if !alike(answers(l, l[i], l[0]), answers(normAll(l), norm(l[i]), norm(l[0]))) {
				t.Fatal(said("", l))
			}
		}
	}
}

// P1: long numbers, and long lists, are gone through in the end.
func TestLongNumbers(t *testing.T) {
	great := api.Int{Neg: true, Abs: slices.Repeat([]uint64{most}, api.MaxLimbs)}
	checkDot(t, []api.Int{great, small(3), great}, []api.Int{great, great, small(-1)})
	l := [][]api.Int{{great, small(1)}, {small(1), great}}
	gram, e := lattice.Gram(l)
	wantInt(t, said("Gram of great ones"), gram, e, gramOf(l))
	if !checkReduced(t, l) || !checkIn(t, l, plus(l[0], value(great), l[1])) || checkIn(t, l, []api.Int{great, {}}) {
		t.Error("of great ones")
	}
	checkReduce(t, l)
	checkReduce(t, [][]api.Int{{small(1), great}, {{}, small(1)}})
	great.Abs = great.Abs[:500]
	checkReduce(t, [][]api.Int{{great, great}, {small(5), small(5)}})
	checkReduce(t, [][]api.Int{{great, small(1), {}}, {{}, great, great}})
	checkReduce(t, [][]api.Int{{small(2), {}, great}, {{}, small(1), {Abs: great.Abs}}, {small(3), small(7), great}})
}

func TestLongLists(t *testing.T) {
	long := append(make([]api.Int, 1000000), small(3))
	checkDot(t, long, long)
	if _, e := lattice.Dot(long, long[1:]); e != api.ErrArg {
		t.Error(e)
	}
	for _, l := range [][][]api.Int{{long}, {row(1, 2), long}, make([][]api.Int, 1000000), slices.Repeat([][]api.Int{long}, 1000)} {
		if got := answers(l, long, long); !same(got[0], nil) || !same(got[1], row(9, 1)) || !same(got[2], row(0, 1)) {
			t.Errorf("of %d rows: %d", len(l), len(got))
		}
	}
	if times, e := lattice.In(unit(3), long); e != api.ErrArg || times != nil {
		t.Error(e)
	}
	if times, e := lattice.In(nil, long); e != api.ErrNone || times != nil {
		t.Error(e)
	}
}
