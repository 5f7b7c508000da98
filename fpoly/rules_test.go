package fpoly_test

import (
	"slices"
	"testing"

	"cleaver/api"
	"cleaver/fpoly"
)

// answers are the polynomials that all calls make of these, the errors left out; the value is one of them.
func answers(a, b []int, n api.Int, p int) [][]int {
	var lists [][]int
	for _, name := range []string{"Norm", "Add", "Sub", "Mul", "Monic", "Gcd", "Deriv"} {
		is, _ := listCalls()[name](a, b, p)
		lists = append(lists, is)
	}
	quotient, rest, _ := fpoly.Div(a, b, p)
	g, s, t, _ := fpoly.Bezout(a, b, p)
	power, _ := fpoly.PowMod(a, n, b, p)
	x, _ := fpoly.Eval(a, len(b), p)
	return append(lists, quotient, rest, g, s, t, power, []int{x})
}

// roomy is a list with memory behind it, which is none of anyone's business.
func roomy[T int | uint64](a []T) []T { return append(slices.Clone(a), 11, 12)[:len(a)] }

// isUntouched tells that a roomy list is still what it was made of.
func isUntouched[T int | uint64](roomy, a []T) bool {
	return slices.Equal(roomy, a) && slices.Equal(roomy[:len(a)+2][len(a):], []T{11, 12})
}

// R3: what is handed in is not changed, and no answer shares memory with it, or with another one.
func TestMemoryIsNew(t *testing.T) {
	pairs(func(a, b []int, p int) {
		n := []uint64{uint64(len(a)), 0}
		x, y, k := roomy(a), roomy(b), roomy(n)
		lists, kept := answers(x, y, api.Int{Abs: k}, p), answers(a, b, api.Int{Abs: n}, p)
		for i, l := range lists {
			if !slices.Equal(l, kept[i]) {
				t.Fatalf("answer %d: shares memory, or is not the same twice: %s", i, said("", p, a, b))
			}
			scribble(l)
		}
		if !isUntouched(x, a) || !isUntouched(y, b) || !isUntouched(k, n) {
			t.Fatalf("what was handed in has changed: %s", said("", p, a, b))
		}
	})
}

// scribble overwrites a list as far as its memory goes.
func scribble(l []int) {
	l = l[:cap(l)]
	for i := range l {
		l[i] = 0xdead
	}
}

// The same list as both arguments is no matter.
func TestSameListTwice(t *testing.T) {
	pairs(func(a, _ []int, p int) {
		alike, apart := answers(a, a, number(3), p), answers(a, slices.Clone(a), number(3), p)
		for i := range alike {
			if !slices.Equal(alike[i], apart[i]) {
				t.Fatalf("answer %d: %s", i, said("", p, a))
			}
		}
	})
}

// R4: polynomials that are not plain are taken by their rests, and answered plain.
func TestNotPlain(t *testing.T) {
	pairs(func(a, b []int, p int) {
		x, _ := fpoly.Eval(a, 12345, p)
		plainX, _ := fpoly.Eval(norm(a, p), 12345, p)
		got, plain := answers(a, norm(b, p), number(5), p), answers(norm(a, p), norm(b, p), number(5), p)
		other := answers(norm(a, p), b, number(5), p)
		for i := range len(plain) - 1 {
			if !slices.Equal(got[i], plain[i]) || !slices.Equal(other[i], plain[i]) || !isPlain(plain[i], p) || x != plainX {
				t.Fatalf("answer %d: %s: %v, %v, %v", i, said("", p, a, b), got[i], other[i], plain[i])
			}
		}
	})
}

// P1: long lists, and long exponents of short ones, are gone through in the end.
func TestLongOnes(t *testing.T) {
	m := newMaker(8)
	for _, p := range []int{2, 65521} {
		a, b := m.unlike(900, p), m.unlike(900, p)
		a, b = append(make([]int, 900), a...), append(b, make([]int, 1000)...)
		f := calls{t, p}
		g, s, u, e := fpoly.Bezout(a, b, p)
		if e != api.OK || !slices.Equal(f.add(f.mul(s, a), f.mul(u, b)), g) || !slices.Equal(f.gcd(a, b), g) {
			t.Errorf("by %d: %v, %v", p, g, e)
		}
	}
	n := api.Int{Abs: slices.Repeat([]uint64{most}, api.MaxLimbs)}
	is, e := fpoly.PowMod([]int{1, 1}, n, []int{2, 0, 0, 1}, 65521)
	want(t, "PowMod", is, e, power([]int{1, 1}, value(n), []int{2, 0, 0, 1}, 65521))
}
