package rat_test

import (
	"slices"
	"testing"

	"cleaver/api"
	"cleaver/rat"
)

// answers are the fractions that all calls make of a and b, the errors left out.
func answers(a, b api.Rat) []api.Rat {
	made, _ := rat.Make(a.Num, b.Num)
	by, _ := rat.Div(a, b)
	number, _ := rat.Whole(a)
	read, _ := rat.Parse(rat.Text(a))
	return []api.Rat{
		made, rat.Norm(a), rat.Norm(b), rat.Neg(a), rat.Neg(b), rat.Add(a, b), rat.Sub(a, b), rat.Sub(b, a), rat.Mul(a, b),
		by, {Num: number}, read, rat.Of(rat.Cmp(a, b)), rat.Of(rat.Sign(a)),
	}
}

// roomyList is a list with memory behind its limbs, which is none of anyone's business.
func roomyList(l []uint64) []uint64 { return append(slices.Clone(l), 11, 12)[:len(l)] }

func roomy(a api.Rat) api.Rat {
	return api.Rat{Num: api.Int{Neg: a.Num.Neg, Abs: roomyList(a.Num.Abs)}, Den: roomyList(a.Den)}
}

// isUntouched tells that a roomy fraction is still what it was made of.
func isUntouched(roomy, a api.Rat) bool {
	num, den := roomy.Num.Abs[:len(a.Num.Abs)+2], roomy.Den[:len(a.Den)+2]
	behind := []uint64{11, 12}
	return same(roomy, a) && slices.Equal(num[len(a.Num.Abs):], behind) && slices.Equal(den[len(a.Den):], behind)
}

// scribble overwrites limbs as far as their memory goes.
func scribble(limbs []uint64) {
	limbs = limbs[:cap(limbs)]
	for i := range limbs {
		limbs[i] = 0xdead
	}
}

// R3: what is handed in is not changed, and no list of an answer shares memory with it, or with another one.
func TestMemoryIsNew(t *testing.T) {
	pairs(func(a, b api.Rat) {
		x, y := roomy(a), roomy(b)
		lists, kept := answers(x, y), answers(a, b)
		for i, l := range lists {
			if !sameInt(l.Num, kept[i].Num) {
				t.Fatalf("answer %d: upper number: shares memory, or is not the same twice: %v, %v", i, a, b)
			}
			scribble(l.Num.Abs)
			if !slices.Equal(l.Den, kept[i].Den) {
				t.Fatalf("answer %d: lower number: shares memory, or is not the same twice: %v, %v", i, a, b)
			}
			scribble(l.Den)
		}
		if !isUntouched(x, a) || !isUntouched(y, b) {
			t.Fatalf("what was handed in has changed: %v, %v", a, b)
		}
	})
}

// The same fraction as both arguments is no matter, nor is one list as both its numbers.
func TestSameListTwice(t *testing.T) {
	m := newMaker(6)
	for range 300 {
		a := m.some(5)
		a.Den = a.Num.Abs
		b := roomy(a)
		alike, apart := answers(a, a), answers(a, b)
		for i := range alike {
			if !same(alike[i], apart[i]) {
				t.Errorf("answer %d: %v", i, a)
			}
		}
	}
}

// R4: things that are not plain are taken as what they are.
func TestNotPlain(t *testing.T) {
	pairs(func(a, b api.Rat) {
		long, plain := answers(a, b), answers(of(value(a)), of(value(b)))
		for i := 1; i < len(long); i++ { // Make alone takes numbers, not fractions
			if !same(long[i], plain[i]) {
				t.Fatalf("answer %d: %v, %v: %v, %v", i, a, b, long[i], plain[i])
			}
		}
	})
}
