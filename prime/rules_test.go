package prime_test

import (
	"slices"
	"testing"

	"cleaver/api"
	"cleaver/prime"
)

// answers are the integers that all calls make of these, the errors left out; those of a fraction are two of them.
func answers(a, m, b, n api.Int) []api.Int {
	rest, _ := prime.Rest(a, m)
	near, _ := prime.Near(a, m)
	both, _ := prime.Crt(a, m, b, n)
	found, _ := prime.Fraction(a, m)
	number, _ := prime.Mod(a, 12)
	return []api.Int{rest, near, both, found.Num, {Abs: found.Den}, small(number)}
}

// quadruples calls f with many quadruples of integers, often such that there are answers.
func quadruples(f func(a, m, b, n api.Int)) {
	m := newMaker(8)
	pairs(func(x, y api.Int) { f(x, y, m.some(4), m.above(1)) })
	for range 500 {
		f(m.some(5), m.above(3), m.some(5), m.above(3))
		f(small(m.IntN(9)-4), small(m.IntN(99)), small(m.IntN(9)-4), small(m.IntN(99)))
	}
}

// roomy is an integer with memory behind its limbs, which is none of anyone's business.
func roomy(a api.Int) api.Int {
	return api.Int{Neg: a.Neg, Abs: append(slices.Clone(a.Abs), 11, 12)[:len(a.Abs)]}
}

// isUntouched tells that a roomy integer is still what it was made of.
func isUntouched(roomy, a api.Int) bool {
	behind := roomy.Abs[len(a.Abs) : len(a.Abs)+2]
	return same(roomy, a) && behind[0] == 11 && behind[1] == 12
}

// scribble overwrites the limbs as far as their memory goes.
func scribble(a api.Int) {
	limbs := a.Abs[:cap(a.Abs)]
	for i := range limbs {
		limbs[i] = 0xdead
	}
}

// R3: what is handed in is not changed, and no answer shares memory with it, or with another one.
func TestMemoryIsNew(t *testing.T) {
	quadruples(func(a, m, b, n api.Int) {
		x := []api.Int{roomy(a), roomy(m), roomy(b), roomy(n)}
		lists, kept := answers(x[0], x[1], x[2], x[3]), answers(a, m, b, n)
		for i, l := range lists {
			if !same(l, kept[i]) {
				t.Fatalf("answer %d: shares memory, or is not the same twice: %v, %v, %v, %v", i, a, m, b, n)
			}
			scribble(l)
		}
		for i, handed := range []api.Int{a, m, b, n} {
			if !isUntouched(x[i], handed) {
				t.Fatalf("what was handed in has changed: %v", handed)
			}
		}
	})
}

// The same list as several arguments is no matter.
func TestSameListTwice(t *testing.T) {
	pairs(func(a, m api.Int) {
		alike, apart := answers(m, m, m, a), answers(roomy(m), m, roomy(m), a)
		for i := range alike {
			if !same(alike[i], apart[i]) {
				t.Fatalf("answer %d: %v, %v", i, a, m)
			}
		}
	})
}

// R4: things that are not plain are taken as what they are, and answered plain.
func TestNotPlain(t *testing.T) {
	quadruples(func(a, m, b, n api.Int) {
		long, plain := answers(a, m, b, n), answers(of(value(a)), of(value(m)), of(value(b)), of(value(n)))
		for i := range long {
			if !same(long[i], plain[i]) || !same(long[i], of(value(long[i]))) {
				t.Fatalf("answer %d: %v, %v, %v, %v: %v, %v", i, a, m, b, n, long[i], plain[i])
			}
		}
	})
}
