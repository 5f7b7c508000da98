package short_test

import (
	"slices"
	"testing"

	"cleaver/api"
	"cleaver/short"
)

// answers are what all calls answer of these, the errors left out; numbers stand in the first list.
func answers(a, h []api.Int, p, k int) [][]api.Int {
	good, _ := short.Good(a, p)
	need, _ := short.Need(a, p, len(h)-1)
	found, _ := short.Find(a, h, p, k)
	numbers := poly(need, 0)
	if good {
		numbers = poly(need, 1)
	}
	return [][]api.Int{numbers, found}
}

// roomy is a list with memory behind it, and behind each of its numbers, which is none of anyone's business.
func roomy(a []api.Int) []api.Int {
	z := make([]api.Int, len(a), len(a)+2)
	for i, c := range a {
		z[i] = api.Int{Neg: c.Neg, Abs: append(slices.Clone(c.Abs), 11, 12)[:len(c.Abs)]}
	}
	return append(z, small(11), small(12))[:len(a)]
}

// isUntouched tells that a roomy list is still what it was made of.
func isUntouched(roomy, a []api.Int) bool {
	behind := roomy[:len(a)+2][len(a):]
	return same(behind, poly(11, 12)) && slices.EqualFunc(roomy, a, func(x, y api.Int) bool {
		n := len(y.Abs)
		return sameInt(x, y) && slices.Equal(x.Abs[:n+2][n:], []uint64{11, 12})
	})
}

// scribble overwrites a list and its numbers as far as their memory goes, and tells whether each number was still what it
// had been when its turn came: so no two of them share memory.
func scribble(l []api.Int) bool {
	kept, alone := make([]api.Int, len(l)), true
	for i, c := range l {
		kept[i] = api.Int{Neg: c.Neg, Abs: slices.Clone(c.Abs)}
	}
	for i := range l {
		alone = alone && sameInt(l[i], kept[i])
		limbs := l[i].Abs[:cap(l[i].Abs)]
		for j := range limbs {
			limbs[j] = 0xdead
		}
	}
	l = l[:cap(l)]
	for i := range l {
		l[i] = small(0xdead)
	}
	return alone
}

// finds calls f with polynomials, plain ones and others, and all their local factors by some primes.
func finds(f func(a, h []api.Int, p, k int)) {
	m := newMaker(9)
	for i := range 60 {
		c := m.product(1+m.IntN(3), 28, 10)
		p := m.prime(c, 200)
		locals := c.locals(p)
		k := c.highest(p, locals) + i%3
		lifted := c.lifted(p, k, locals)
		c.a = m.unplain(c.a)
		for _, h := range lifted {
			f(c.a, h, p, k)
		}
	}
	f(poly(3, 1), poly(3, 1), 5, 2)       // a is the factor itself
	f(poly(1, 0, 1), poly(1, 0, 1), 3, 3) // and so is h
	f(poly(1, 0, 1), poly(1, 1), 3, 3)
	f(nil, nil, 5, 2)
}

// R3: what is handed in is not changed, and no answer shares memory with it, or within itself; nothing is kept.
func TestMemoryIsNew(t *testing.T) {
	finds(func(a, h []api.Int, p, k int) {
		kept := answers(a, h, p, k)
		for range 2 {
			x, y := roomy(a), roomy(h)
			lists := answers(x, y, p, k)
			for i, l := range lists {
				if !same(l, kept[i]) {
					t.Fatalf("answer %d shares memory, or is not the same twice: %s, %s, %d, %d", i, text(a), text(h), p, k)
				}
				if !scribble(l) {
					t.Fatalf("answer %d: two of its numbers share memory: %s, %s, %d, %d", i, text(a), text(h), p, k)
				}
			}
			if !isUntouched(x, a) || !isUntouched(y, h) {
				t.Fatalf("what was handed in has changed: %s, %s, %d, %d", text(a), text(h), p, k)
			}
		}
	})
}

// The same list as both arguments is no matter.
func TestSameListTwice(t *testing.T) {
	a := poly(1, 0, 1)
	wantFind(t, a, a, 3, 2, poly(1, 0, 1))
	wantFind(t, a, a, 7, 40, poly(1, 0, 1))
	wantNoFind(t, a, a, 5, 9, api.ErrArg)
	for n := range 60 {
		wantFind(t, poly(n, 1), poly(n, 1), 61, 2+n, poly(n, 1))
	}
}

// R4: a polynomial that is not plain is taken as what it is, and answered plain.
func TestNotPlain(t *testing.T) {
	m := newMaker(10)
	finds(func(a, h []api.Int, p, k int) {
		wanted := answers(norm(a), h, p, k)
		for _, other := range [][]api.Int{a, m.unplain(norm(a)), append(slices.Clone(a), make([]api.Int, 70)...)} {
			got := answers(other, h, p, k)
			if !slices.EqualFunc(got, wanted, same) {
				t.Fatalf("%s, %s, %d, %d: not as it is when plain", text(other), text(h), p, k)
			}
			if !same(got[1], norm(got[1])) {
				t.Fatalf("%s, %s, %d, %d: %s", text(other), text(h), p, k, text(got[1]))
			}
		}
	})
}

// R1: all arguments are gone through in the end, whatever they are.
func TestAnyArguments(t *testing.T) {
	m := newMaker(11)
	edges := []api.Int{{}, {Neg: true}, {Abs: []uint64{0}}, {Neg: true, Abs: []uint64{0, 0}}, small(1), small(-1), {Abs: []uint64{1, 0}}, small(2), small(3), small(17), {Abs: []uint64{most}}, {Neg: true, Abs: []uint64{0, 1}}, {Abs: []uint64{5, 0, most}}}
	list := func() []api.Int {
		a := make([]api.Int, m.IntN(7))
		for i := range a {
			a[i] = edges[m.IntN(len(edges))]
		}
		return a
	}
	for range 20000 {
		a, h := list(), list()
		if len(h) > 0 && m.IntN(2) == 0 {
			h[len(h)-1] = small(1)
		}
		p := []int{-17, 0, 1, 2, 3, 4, 5, 7, 17, 65521, 65522, 1<<63 - 1}[m.IntN(12)]
		k := []int{-1 << 63, -1, 0, 1, 2, 5, 30, 200, 1000, 1001, 1<<63 - 1}[m.IntN(11)]
		good, e := short.Good(a, p)
		z, f := short.Find(a, h, p, k)
		if f == api.OK && (e != api.OK || !good || len(z) < len(h)) || f != api.OK && z != nil {
			t.Fatalf("Find of %s, %s, %d, %d: %s, %v", text(a), text(h), p, k, text(z), f)
		}
	}
}

// P1: long numbers, and long lists, are gone through in the end.
func TestLongNumbers(t *testing.T) {
	great := api.Int{Neg: true, Abs: slices.Repeat([]uint64{most}, api.MaxLimbs)}
	a := append(slices.Repeat([]api.Int{great}, api.MaxDeg), small(1))
	wantGood(t, a, 2, mayBeParted(slices.Repeat(poly(1), 3), 2))
	wantNoFind(t, a, poly(1, 1), 2, 1000, api.ErrArg)
	wantNoFind(t, a, []api.Int{great, small(1)}, 2, 1000, api.ErrArg)
	wantNoFind(t, []api.Int{great, small(1)}, []api.Int{great, small(1)}, 65521, 1000, api.ErrArg)
	wantNoFind(t, []api.Int{{}, great}, poly(0, 1), 5, 1000, api.ErrArg) // 5 divides such a number
	wantFind(t, []api.Int{{}, great}, poly(0, 1), 7, 1000, poly(0, 1))
	long := append(make([]api.Int, 1000000), small(1))
	wantNoFind(t, poly(1, 1), long, 3, 30, api.ErrArg)
	wantNoFind(t, long, poly(1, 1), 3, 30, api.ErrLimit)
	wantNoGood(t, long, 3, api.ErrLimit)
	wantNoNeed(t, long, 3, 1, api.ErrLimit)
	wantFind(t, append(poly(1, 1), make([]api.Int, 1000000)...), poly(1, 1), 3, 30, poly(1, 1))
}
