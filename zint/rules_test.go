package zint_test

import (
	"slices"
	"testing"

	"cleaver/api"
	"cleaver/zint"
)

// answers are the integers that all calls make of a and b, the errors left out.
func answers(a, b api.Int, n int) []api.Int {
	quotient, rest, _ := zint.Div(a, b)
	exact, _ := zint.Exact(zint.Mul(a, b), b)
	g, s, t := zint.Bezout(a, b)
	power, _ := zint.Pow(a, n)
	root, _ := zint.Root(a, n+1)
	return []api.Int{
		zint.Norm(a), zint.Norm(b), zint.Neg(a), zint.Neg(b), zint.Add(a, b), zint.Sub(a, b), zint.Sub(b, a), zint.Mul(a, b),
		quotient, rest, exact, zint.Gcd(a, b), g, s, t, power, root,
	}
}

// roomy is an integer with memory behind its limbs, which is none of anyone's business.
func roomy(a api.Int) api.Int {
	return api.Int{Neg: a.Neg, Abs: append(slices.Clone(a.Abs), 11, 12)[:len(a.Abs)]}
}

func isUntouched(roomy, a api.Int) bool {
	behind := roomy.Abs[len(a.Abs) : len(a.Abs)+2]
	return slices.Equal(roomy.Abs, a.Abs) && behind[0] == 11 && behind[1] == 12
}

// R3: what is handed in is not changed, and no answer shares memory with it, or with another one.
func TestMemoryIsNew(t *testing.T) {
	n := 0
	pairs(func(a, b api.Int) {
		n = (n + 1) % 8
		x, y := roomy(a), roomy(b)
		lists := answers(x, y, n)
		zint.Small(x)
		zint.Sign(x)
		zint.Cmp(x, y)
		zint.Text(x)
		kept := answers(a, b, n)
		for i, l := range lists {
			if !same(l, kept[i]) {
				t.Fatalf("answer %d: shares memory, or is not the same twice: %v, %v", i, a, b)
			}
			scribble(l)
		}
		if !isUntouched(x, a) || !isUntouched(y, b) {
			t.Fatalf("what was handed in has changed: %v, %v", a, b)
		}
	})
}

// scribble overwrites the limbs as far as their memory goes.
func scribble(a api.Int) {
	limbs := a.Abs[:cap(a.Abs)]
	for i := range limbs {
		limbs[i] = 0xdead
	}
}

// The same list as both arguments is no matter.
func TestSameListTwice(t *testing.T) {
	m := newMaker(12)
	for n := range 60 {
		a := m.some(n)
		b := api.Int{Neg: a.Neg, Abs: slices.Clone(a.Abs)}
		alike, apart := answers(a, a, n), answers(a, b, n)
		for i := range alike {
			if !same(alike[i], apart[i]) {
				t.Errorf("answer %d: %v", i, a)
			}
		}
	}
}

// R4: things that are not plain are taken as what they are, and answered plain.
func TestNotPlain(t *testing.T) {
	pairs(func(a, b api.Int) {
		plainA, plainB := of(value(a)), of(value(b))
		long, plain := answers(a, b, 3), answers(plainA, plainB, 3)
		for i := range long {
			if !same(long[i], plain[i]) {
				t.Fatalf("answer %d: %v, %v: %v, %v", i, a, b, long[i], plain[i])
			}
			if !same(long[i], of(value(long[i]))) {
				t.Fatalf("answer %d is not plain: %v", i, long[i])
			}
		}
	})
}
