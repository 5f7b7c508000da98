package prime_test

import (
	"math/big"
	"testing"

	"cleaver/api"
	"cleaver/prime"
)

// P4.4, P4.5

// greatest is the greatest h with 2 h h less than m, sought by halves of where it may lie.
func greatest(m *big.Int) *big.Int {
	low, high := big.NewInt(0), new(big.Int).Set(m)
	for one := big.NewInt(1); new(big.Int).Sub(high, low).Cmp(one) > 0; {
		middle := new(big.Int).Add(low, high)
		middle.Rsh(middle, 1)
		square := new(big.Int).Mul(middle, middle)
		if square.Lsh(square, 1).Cmp(m) < 0 {
			low = middle
		} else {
			high = middle
		}
	}
	return low
}

// euclid goes row by row, as the document has it; nil: there is no fraction.
func euclid(a, m *big.Int) *big.Rat {
	h := greatest(m)
	type row struct{ number, taken *big.Int }
	last, next := row{m, big.NewInt(0)}, row{rest(a, m), big.NewInt(1)}
	for last.number.Cmp(h) > 0 {
		after := next // there is none behind the row of 0, and none is needed, as 0 is at most h
		if next.number.Sign() > 0 {
			q, number := new(big.Int).DivMod(last.number, next.number, new(big.Int))
			after = row{number, new(big.Int).Sub(last.taken, q.Mul(q, next.taken))}
		}
		last, next = next, after
	}
	r, t := last.number, last.taken
	shared := new(big.Int).GCD(nil, nil, r, new(big.Int).Abs(t))
	if t.CmpAbs(h) > 0 || shared.Cmp(big.NewInt(1)) != 0 {
		return nil
	}
	return new(big.Rat).SetFrac(r, t)
}

// checkFraction holds an answer against the document's rows.
func checkFraction(t *testing.T, a, m api.Int) {
	t.Helper()
	wanted, number := api.Rat{}, api.ErrArg
	if value(m).Sign() > 0 {
		number = api.ErrNone
		if v := euclid(value(a), value(m)); v != nil {
			wanted, number = fraction(v), api.OK
		}
	}
	if is, e := prime.Fraction(a, m); e != number || !sameRat(is, wanted) {
		t.Fatalf("Fraction(%v, %v): %v, %v, not %v, %v", a, m, is, e, wanted, number)
	}
}

func TestFraction(t *testing.T) {
	for _, c := range []struct {
		a, m     int
		num, den int
	}{
		{34, 101, 1, 3}, {67, 101, -1, 3}, {135, 101, 1, 3}, {-67, 101, 1, 3}, {0, 101, 0, 1}, {7, 101, 7, 1}, {-7, 101, -7, 1}, {51, 101, 1, 2},
		{1, 3, 1, 1}, {2, 3, -1, 1}, {0, 3, 0, 1}, {1, 9, 1, 1}, {5, 9, 1, 2}, {3, 4, -1, 1}, {0, 8, 0, 1},
	} {
		is, e := prime.Fraction(small(c.a), small(c.m))
		if e != api.OK || !sameRat(is, fraction(big.NewRat(int64(c.num), int64(c.den)))) {
			t.Errorf("Fraction(%d, %d): %v, %v", c.a, c.m, is, e)
		}
	}
}

// By 1 and 2 there is none, as h is 0. Elsewhere the row found has a count above h, or one with a divisor in common with its number.
func TestFractionIsNone(t *testing.T) {
	for _, c := range []struct{ a, m int }{
		{0, 1}, {5, 1}, {0, 2}, {1, 2},
		{2, 4}, {3, 18}, {6, 24}, {10, 101}, // the rows 0 and -2, 0 and -6, 0 and -4, 1 and -10; h is 1, 2, 3, 7
		{10, 20}, {11, 20}, {31, 60}, {20, 60}, // the rows 0 and -2, 2 and 2, 2 and 2, 0 and -3; h is 3 and 5
	} {
		if is, e := prime.Fraction(small(c.a), small(c.m)); e != api.ErrNone || !sameRat(is, api.Rat{}) {
			t.Errorf("Fraction(%d, %d): %v, %v", c.a, c.m, is, e)
		}
	}
}

func TestFractionRefuses(t *testing.T) {
	for _, m := range []api.Int{{}, {Neg: true}, {Abs: []uint64{0, 0}}, small(-1), small(-101), {Neg: true, Abs: []uint64{0, 1}}} {
		for _, a := range edges() {
			if is, e := prime.Fraction(a, m); e != api.ErrArg || !sameRat(is, api.Rat{}) {
				t.Errorf("Fraction(%v, %v): %v, %v", a, m, is, e)
			}
		}
	}
}

func TestFractionByRows(t *testing.T) {
	pairs(func(a, m api.Int) { checkFraction(t, a, m) })
	m := newMaker(5)
	for range 300 {
		checkFraction(t, m.some(12), m.above(8))
	}
	checkFraction(t, m.some(300), m.above(200))
}

// Where h turns: 2 h h, and the numbers next to it, also of more than a limb.
func TestFractionWhereItsBoundTurns(t *testing.T) {
	m := newMaker(6)
	for n := range 300 {
		h := big.NewInt(int64(n / 2))
		if n%2 == 1 {
			h = value(m.above(2))
		}
		twice := new(big.Int).Mul(h, h)
		twice.Lsh(twice, 1)
		for off := int64(-1); off <= 2; off++ {
			by := new(big.Int).Add(twice, big.NewInt(off))
			for _, a := range []*big.Int{h, new(big.Int).Neg(h), new(big.Int).Sub(h, big.NewInt(1)), new(big.Int).Add(h, big.NewInt(1)), value(m.some(5))} {
				checkFraction(t, of(a), of(by))
			}
		}
	}
}

// All of all small numbers: the answer has the rest, is small enough, and is the only one that is so.
func TestFractionIsTheOnlyOne(t *testing.T) {
	for m := 1; m <= 160; m++ {
		h := int(greatest(big.NewInt(int64(m))).Int64())
		for a := range m {
			var told *big.Rat
			if is, e := prime.Fraction(small(a), small(m)); e == api.OK {
				told = new(big.Rat).SetFrac(value(is.Num), value(api.Int{Abs: is.Den}))
				checkMeaning(t, told, a, m, h)
			}
			for _, other := range fractionsOf(a, m, h) {
				if told == nil || told.Cmp(other) != 0 {
					t.Fatalf("Fraction(%d, %d): %v, but also %v", a, m, told, other)
				}
			}
			checkFraction(t, small(a), small(m))
		}
	}
}

func checkMeaning(t *testing.T, told *big.Rat, a, m, h int) {
	t.Helper()
	num, den := int(told.Num().Int64()), int(told.Denom().Int64())
	if num < -h || num > h || den < 1 || den > h || (num-a*den)%m != 0 {
		t.Fatalf("Fraction(%d, %d): %v", a, m, told)
	}
}

// fractionsOf are all fractions of numbers up to h that have a rest, by their lower number that has no divisor in common with m.
func fractionsOf(a, m, h int) []*big.Rat {
	var all []*big.Rat
	for den := 1; den <= h; den++ {
		if new(big.Int).GCD(nil, nil, big.NewInt(int64(den)), big.NewInt(int64(m))).Int64() != 1 {
			continue
		}
		for num := -h; num <= h; num++ {
			if (num-a*den)%m == 0 {
				all = append(all, big.NewRat(int64(num), int64(den)))
			}
		}
	}
	return all
}

// Fractions of long numbers are found again by what they are by m.
func TestFractionIsFoundAgain(t *testing.T) {
	r := newMaker(7)
	for k := range 400 {
		m := new(big.Int).Add(value(r.above(6)), big.NewInt(3))
		if k%2 == 0 {
			m.Exp(big.NewInt(7), big.NewInt(int64(10+r.IntN(300))), nil)
		}
		h := greatest(m)
		num, den := rest(value(r.some(8)), new(big.Int).Add(h, big.NewInt(1))), rest(value(r.some(8)), h)
		if k%3 == 0 {
			num.Neg(num)
		}
		den.Add(den, big.NewInt(1))
		inverse := new(big.Int).ModInverse(den, m)
		if inverse == nil {
			continue
		}
		is, e := prime.Fraction(of(inverse.Mul(inverse, num)), of(m))
		if wanted := new(big.Rat).SetFrac(num, den); e != api.OK || !sameRat(is, fraction(wanted)) {
			t.Fatalf("%v by %v: %v, %v", wanted, m, is, e)
		}
	}
}
