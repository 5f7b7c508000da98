package nat_test

import (
	"slices"
	"strings"
	"testing"

	"cleaver/api"
	"cleaver/nat"
)

// P1.5: what follows, told by the calls alone.

func TestLawsOfSums(t *testing.T) {
	m := maker(7)
	pairs(func(a, b []uint64) {
		c := m.some(int(m.bits() % 12))
		sum := nat.Add(a, b)
		if !slices.Equal(sum, nat.Add(b, a)) {
			t.Errorf("a + b, b + a: %x, %x", a, b)
		}
		if !slices.Equal(nat.Add(sum, c), nat.Add(a, nat.Add(b, c))) {
			t.Errorf("(a + b) + c, a + (b + c): %x, %x, %x", a, b, c)
		}
		if left, e := nat.Sub(sum, b); e != api.OK || !slices.Equal(left, nat.Norm(a)) {
			t.Errorf("a + b - b: %x, %x: %x, %v", a, b, left, e)
		}
	})
}

func TestLawsOfProducts(t *testing.T) {
	m := maker(8)
	pairs(func(a, b []uint64) {
		c := m.some(int(m.bits() % 90))
		product := nat.Mul(a, b)
		if !slices.Equal(product, nat.Mul(b, a)) {
			t.Errorf("a b, b a: %x, %x", a, b)
		}
		if !slices.Equal(nat.Mul(product, c), nat.Mul(a, nat.Mul(b, c))) {
			t.Errorf("(a b) c, a (b c): %x, %x, %x", a, b, c)
		}
		if !slices.Equal(nat.Mul(c, nat.Add(a, b)), nat.Add(nat.Mul(c, a), nat.Mul(c, b))) {
			t.Errorf("c (a + b), c a + c b: %x, %x, %x", a, b, c)
		}
		if nat.Bits(b) > 0 {
			quotient, rest, e := nat.Div(product, b)
			if e != api.OK || !slices.Equal(quotient, nat.Norm(a)) || len(rest) != 0 {
				t.Errorf("a b by b: %x, %x: %x, %x, %v", a, b, quotient, rest, e)
			}
		}
	})
}

func TestLawOfDiv(t *testing.T) {
	pairs(func(a, b []uint64) {
		quotient, rest, e := nat.Div(a, b)
		if e == api.OK && (nat.Cmp(rest, b) >= 0 || nat.Cmp(nat.Add(nat.Mul(quotient, b), rest), a) != 0) {
			t.Errorf("q b + r: %x, %x: %x, %x", a, b, quotient, rest)
		}
	})
}

func TestLawsOfShifts(t *testing.T) {
	pairs(func(a, b []uint64) {
		n := nat.Bits(b) % 300
		unit, e := nat.Shl([]uint64{1}, n)
		raised, f := nat.Shl(a, n)
		if e != api.OK || f != api.OK || !slices.Equal(raised, nat.Mul(a, unit)) || !slices.Equal(nat.Shr(raised, n), nat.Norm(a)) {
			t.Errorf("up and down by %d: %x", n, a)
		}
		if quotient, _, _ := nat.Div(a, unit); !slices.Equal(nat.Shr(a, n), quotient) {
			t.Errorf("down by %d: %x", n, a)
		}
		if last := nat.Bits(a); len(nat.Shr(a, last)) != 0 || last > 0 && !slices.Equal(nat.Shr(a, last-1), []uint64{1}) {
			t.Errorf("Bits: %x", a)
		}
	})
}

func TestThereAndBack(t *testing.T) {
	pairs(func(a, b []uint64) {
		text := nat.Text(a)
		number, e := nat.Parse(text)
		switch {
		case len(text) > api.MaxText:
			if e != api.ErrText || number != nil {
				t.Errorf("Parse of %d digits: %v", len(text), e)
			}
		case e != api.OK || !slices.Equal(number, nat.Norm(a)):
			t.Errorf("Parse of Text: %x: %x, %v", a, number, e)
		}
	})
}

// The least number whose text is too long, and the one below it.
func TestLongestText(t *testing.T) {
	longest, e := nat.Parse(strings.Repeat("9", api.MaxText))
	if e != api.OK {
		t.Fatal(e)
	}
	text := nat.Text(nat.Add(longest, []uint64{1}))
	if text != "1"+strings.Repeat("0", api.MaxText) {
		t.Error("10 to the power of MaxText:", text)
	}
	if number, e := nat.Parse(text); number != nil || e != api.ErrText {
		t.Error(number, e)
	}
}
