package nat_test

import (
	"slices"
	"testing"

	"cleaver/api"
	"cleaver/nat"
)

// answers are the lists that all calls make of a and b.
func answers(a, b []uint64, n int) [][]uint64 {
	left, _ := nat.Sub(a, b)
	quotient, rest, _ := nat.Div(a, b)
	raised, _ := nat.Shl(a, n)
	return [][]uint64{nat.Norm(a), nat.Norm(b), nat.Add(a, b), left, nat.Mul(a, b), quotient, rest, raised, nat.Shr(a, n)}
}

// R3: what is handed in is not changed, and no answer shares memory with it, or with another one.
func TestMemoryIsNew(t *testing.T) {
	n := 0
	pairs(func(a, b []uint64) {
		n = (n + 1) % 130
		roomyA, roomyB := append(slices.Clone(a), 11, 12)[:len(a)], append(slices.Clone(b), 13, 14)[:len(b)]
		lists := answers(roomyA, roomyB, n)
		nat.Cmp(roomyA, roomyB)
		nat.Bits(roomyA)
		nat.Text(roomyA)
		kept := make([][]uint64, len(lists))
		for i, l := range lists {
			kept[i] = slices.Clone(l)
		}
		for i, l := range lists {
			if !slices.Equal(l, kept[i]) {
				t.Fatalf("answer %d shares memory with one ahead: %x, %x", i, a, b)
			}
			scribble(l)
		}
		if !slices.Equal(roomyA, a) || !slices.Equal(roomyB, b) {
			t.Fatalf("what was handed in has changed: %x, %x", a, b)
		}
		if !slices.Equal(roomyA[:len(a)+2][len(a):], []uint64{11, 12}) || !slices.Equal(roomyB[:len(b)+2][len(b):], []uint64{13, 14}) {
			t.Fatalf("what lies behind what was handed in has changed: %x, %x", a, b)
		}
	})
}

// scribble overwrites a list as far as its memory goes.
func scribble(l []uint64) {
	l = l[:cap(l)]
	for i := range l {
		l[i] = 0xdead
	}
}

// The same list as both arguments is no matter.
func TestSameListTwice(t *testing.T) {
	m := maker(9)
	for n := range 200 {
		a := append(m.some(n), 1)
		b := slices.Clone(a)
		for i, l := range answers(a, a, n) {
			if !slices.Equal(l, answers(a, b, n)[i]) {
				t.Errorf("answer %d: %x", i, a)
			}
		}
	}
}

// P1, R2: beside an error there is nothing else.
func TestErrorsStandAlone(t *testing.T) {
	long := slices.Repeat([]uint64{most}, 300)
	if left, e := nat.Sub(nil, long); left != nil || e != api.ErrArg {
		t.Error(left, e)
	}
	for _, nought := range [][]uint64{nil, {}, {0}, make([]uint64, 400)} {
		for _, a := range [][]uint64{nil, {0}, {5}, long} {
			if quotient, rest, e := nat.Div(a, nought); quotient != nil || rest != nil || e != api.ErrZero {
				t.Error(quotient, rest, e)
			}
		}
	}
}
