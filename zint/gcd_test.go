package zint_test

import (
	"math/big"
	"testing"

	"cleaver/api"
	"cleaver/zint"
)

// P2.3

// euclid goes row by row, as the document has it.
func euclid(a, b *big.Int) (g, s, t *big.Int) {
	type row [3]*big.Int
	last := row{new(big.Int).Abs(a), big.NewInt(1), big.NewInt(0)}
	next := row{new(big.Int).Abs(b), big.NewInt(0), big.NewInt(1)}
	for next[0].Sign() != 0 {
		q := new(big.Int).Div(last[0], next[0])
		var after row
		for i := range after {
			after[i] = new(big.Int).Sub(last[i], new(big.Int).Mul(q, next[i]))
		}
		last, next = next, after
	}
	if a.Sign() < 0 {
		last[1].Neg(last[1])
	}
	if b.Sign() < 0 {
		last[2].Neg(last[2])
	}
	return last[0], last[1], last[2]
}

func checkBezout(t *testing.T, a, b api.Int) {
	t.Helper()
	g, s, u := euclid(value(a), value(b))
	want(t, "Gcd", zint.Gcd(a, b), g)
	isG, isS, isT := zint.Bezout(a, b)
	want(t, "Bezout's g", isG, g)
	want(t, "Bezout's s", isS, s)
	want(t, "Bezout's t", isT, u)
	if t.Failed() {
		t.Fatalf("of %v, %v", a, b)
	}
}

func TestBezoutOfSmallOnes(t *testing.T) {
	for _, c := range []struct{ a, b, g, s, t int }{
		{12, -18, 6, -1, -1}, {0, 0, 0, 1, 0}, {5, 0, 5, 1, 0}, {-5, 0, 5, -1, 0}, {0, 5, 5, 0, 1}, {0, -5, 5, 0, -1},
		{4, 4, 4, 0, 1}, {4, -4, 4, 0, -1}, {2, 4, 2, 1, 0}, {4, 2, 2, 0, 1}, {1, 1, 1, 0, 1}, {3, 7, 1, -2, 1}, {7, 3, 1, 1, -2},
	} {
		g, s, u := zint.Bezout(zint.Of(c.a), zint.Of(c.b))
		if !same(g, zint.Of(c.g)) || !same(s, zint.Of(c.s)) || !same(u, zint.Of(c.t)) {
			t.Errorf("Bezout(%d, %d): %v, %v, %v", c.a, c.b, g, s, u)
		}
	}
	for a := -40; a <= 40; a++ {
		for b := -40; b <= 40; b++ {
			checkBezout(t, zint.Of(a), zint.Of(b))
		}
	}
}

// A nought that is told to be below 0 is not.
func TestBezoutOfNoughts(t *testing.T) {
	noughts := []api.Int{{}, {Neg: true}, {Abs: []uint64{0, 0}}, {Neg: true, Abs: []uint64{0}}}
	for _, a := range noughts {
		for _, b := range noughts {
			if g, s, u := zint.Bezout(a, b); !isNought(g) || !same(s, zint.Of(1)) || !isNought(u) {
				t.Errorf("Bezout(%v, %v): %v, %v, %v", a, b, g, s, u)
			}
			if g := zint.Gcd(a, b); !isNought(g) {
				t.Errorf("Gcd(%v, %v): %v", a, b, g)
			}
		}
		checkBezout(t, a, num("-0x5_0000000000000000"))
		checkBezout(t, num("-0x5_0000000000000000"), a)
	}
}

func TestBezout(t *testing.T) {
	pairs(func(a, b api.Int) { checkBezout(t, a, b) })
	m := newMaker(3)
	for range 300 {
		a, b, c := m.some(m.IntN(20)), m.some(m.IntN(20)), m.some(m.IntN(6))
		checkBezout(t, zint.Mul(a, c), zint.Mul(b, c))
	}
}

// Neighbours in Fibonacci's row have the most steps, each of them by 1.
func TestBezoutOfMostSteps(t *testing.T) {
	a, b := big.NewInt(0), big.NewInt(1)
	for n := range 1500 {
		a, b = b, new(big.Int).Add(a, b)
		if n < 300 || n%50 == 0 {
			checkBezout(t, of(a), of(b))
			checkBezout(t, of(new(big.Int).Neg(b)), of(a))
		}
	}
}

// Ways that are made backwards: quotients of all lengths, great ones where small ones stand about,
// so that steps are told by the ends of numbers up to any place, and no farther.
func TestBezoutByQuotients(t *testing.T) {
	m := newMaker(4)
	for range 1500 {
		a, b := value(m.some(m.IntN(3))), new(big.Int)
		a.Abs(a)
		for range m.IntN(120) {
			q := new(big.Int).SetUint64(m.Uint64() >> m.IntN(64))
			if m.IntN(15) == 0 {
				q.Abs(value(m.some(1 + m.IntN(3))))
			}
			q.Add(q, big.NewInt(1))
			a, b = q.Add(q.Mul(q, a), b), a
		}
		checkBezout(t, of(a), of(b))
		checkBezout(t, of(b), of(new(big.Int).Neg(a)))
	}
}

// Numbers whose ends are alike, so that what lies below turns the very first quotients.
func TestBezoutOfLikeEnds(t *testing.T) {
	m := newMaker(5)
	for range 400 {
		a := value(m.some(1 + m.IntN(6)))
		for _, up := range []uint{1, 63, 64, 65, 128, 200} {
			b := new(big.Int).Lsh(a, up)
			checkBezout(t, of(new(big.Int).Add(b, big.NewInt(int64(m.IntN(9)-4)))), of(a))
			checkBezout(t, of(b), of(new(big.Int).Add(b, value(m.some(1)))))
			checkBezout(t, of(new(big.Int).Mul(b, big.NewInt(2))), of(new(big.Int).Mul(b, big.NewInt(3))))
		}
	}
}

func TestBezoutOfGreatOnes(t *testing.T) {
	m := newMaker(6)
	a, b := m.some(api.MaxLimbs), m.some(api.MaxLimbs-1)
	x, y := value(a), value(b)
	wanted := new(big.Int).GCD(nil, nil, new(big.Int).Abs(x), new(big.Int).Abs(y))
	g, s, u := zint.Bezout(a, b)
	want(t, "Gcd", zint.Gcd(a, b), wanted)
	want(t, "Bezout's g", g, wanted)
	sum := new(big.Int).Add(new(big.Int).Mul(value(s), x), new(big.Int).Mul(value(u), y))
	if sum.Cmp(wanted) != 0 || value(s).CmpAbs(y) > 0 || value(u).CmpAbs(x) > 0 {
		t.Error("g is not s a + t b, or s, t are too great")
	}
}
