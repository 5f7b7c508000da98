package rat_test

import (
	"testing"

	"cleaver/api"
	"cleaver/rat"
)

// P3.3: what follows, told by the calls alone.

func TestField(t *testing.T) {
	m := newMaker(4)
	nought, one := rat.Of(0), rat.Of(1)
	pairs(func(a, b api.Rat) {
		c := m.some(3)
		for _, law := range []struct {
			what        string
			left, right api.Rat
		}{
			{"a + b, b + a", rat.Add(a, b), rat.Add(b, a)},
			{"a b, b a", rat.Mul(a, b), rat.Mul(b, a)},
			{"(a + b) + c, a + (b + c)", rat.Add(rat.Add(a, b), c), rat.Add(a, rat.Add(b, c))},
			{"(a b) c, a (b c)", rat.Mul(rat.Mul(a, b), c), rat.Mul(a, rat.Mul(b, c))},
			{"c (a + b), c a + c b", rat.Mul(c, rat.Add(a, b)), rat.Add(rat.Mul(c, a), rat.Mul(c, b))},
			{"a + 0, a", rat.Add(a, nought), rat.Norm(a)},
			{"a 1, a", rat.Mul(a, one), rat.Norm(a)},
			{"a + -a, 0", rat.Add(a, rat.Neg(a)), nought},
			{"a - b, a + -b", rat.Sub(a, b), rat.Add(a, rat.Neg(b))},
			{"(a + b) - b, a", rat.Sub(rat.Add(a, b), b), rat.Norm(a)},
		} {
			if !same(law.left, law.right) {
				t.Fatalf("%s: %v, %v, %v: %v, %v", law.what, a, b, c, law.left, law.right)
			}
		}
		if rat.Cmp(a, b) != rat.Sign(rat.Sub(a, b)) {
			t.Fatalf("Cmp(a, b), Sign(a - b): %v, %v", a, b)
		}
	})
}

func TestEachHasItsInverse(t *testing.T) {
	one := rat.Of(1)
	pairs(func(a, b api.Rat) {
		if rat.Sign(b) == 0 {
			return
		}
		inverse, e := rat.Div(one, b)
		if e != api.OK || !same(rat.Mul(b, inverse), one) {
			t.Fatalf("1 by %v: %v, %v", b, inverse, e)
		}
		by, e := rat.Div(a, b)
		if e != api.OK || !same(by, rat.Mul(a, inverse)) || !same(rat.Mul(by, b), rat.Norm(a)) {
			t.Fatalf("%v by %v: %v, %v", a, b, by, e)
		}
	})
}

// Of two plain ones that are the same number all limbs are the same.
func TestOneForm(t *testing.T) {
	m := newMaker(5)
	pairs(func(a, b api.Rat) {
		long := raised(a, 1+m.Uint64N(most))
		if rat.Cmp(a, long) != 0 || !same(rat.Norm(a), rat.Norm(long)) {
			t.Fatalf("one number: %v, %v", a, long)
		}
		if alike := same(rat.Norm(a), rat.Norm(b)); alike != (rat.Cmp(a, b) == 0) {
			t.Fatalf("limbs of %v, %v alike: %v", a, b, alike)
		}
	})
}

func TestWholeOnesAreIntegers(t *testing.T) {
	pairs(func(a, b api.Rat) {
		number, ok := rat.Whole(a)
		made, e := rat.Make(number, api.Int{Abs: []uint64{1}})
		if ok && (e != api.OK || !same(made, rat.Norm(a))) {
			t.Fatalf("Whole(%v): %v", a, number)
		}
	})
}
