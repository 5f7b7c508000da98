package zint_test

import (
	"testing"

	"cleaver/api"
	"cleaver/zint"
)

// P2.6: what follows, told by the calls alone.

func TestRing(t *testing.T) {
	m := newMaker(9)
	nought, one := zint.Of(0), zint.Of(1)
	pairs(func(a, b api.Int) {
		c := m.some(m.IntN(12))
		for _, law := range []struct {
			what        string
			left, right api.Int
		}{
			{"a + b, b + a", zint.Add(a, b), zint.Add(b, a)},
			{"a b, b a", zint.Mul(a, b), zint.Mul(b, a)},
			{"(a + b) + c, a + (b + c)", zint.Add(zint.Add(a, b), c), zint.Add(a, zint.Add(b, c))},
			{"(a b) c, a (b c)", zint.Mul(zint.Mul(a, b), c), zint.Mul(a, zint.Mul(b, c))},
			{"c (a + b), c a + c b", zint.Mul(c, zint.Add(a, b)), zint.Add(zint.Mul(c, a), zint.Mul(c, b))},
			{"a + 0, a", zint.Add(a, nought), zint.Norm(a)},
			{"a 1, a", zint.Mul(a, one), zint.Norm(a)},
			{"a + -a, 0", zint.Add(a, zint.Neg(a)), nought},
			{"a - b, a + -b", zint.Sub(a, b), zint.Add(a, zint.Neg(b))},
			{"(a + b) - b, a", zint.Sub(zint.Add(a, b), b), zint.Norm(a)},
		} {
			if !same(law.left, law.right) {
				t.Fatalf("%s: %v, %v, %v: %v, %v", law.what, a, b, c, law.left, law.right)
			}
		}
		if zint.Cmp(a, b) != zint.Sign(zint.Sub(a, b)) {
			t.Fatalf("Cmp(a, b), Sign(a - b): %v, %v", a, b)
		}
	})
}

func TestLawOfDiv(t *testing.T) {
	pairs(func(a, b api.Int) {
		q, r, e := zint.Div(a, b)
		if e != api.OK {
			return
		}
		if !same(zint.Add(zint.Mul(q, b), r), zint.Norm(a)) || zint.Sign(r) < 0 || zint.Cmp(r, api.Int{Abs: b.Abs}) >= 0 {
			t.Fatalf("q b + r: %v, %v: %v, %v", a, b, q, r)
		}
		if back, e := zint.Exact(zint.Mul(a, b), b); e != api.OK || !same(back, zint.Norm(a)) {
			t.Fatalf("a b by b: %v, %v: %v, %v", a, b, back, e)
		}
	})
}

func TestLawsOfGcd(t *testing.T) {
	m := newMaker(10)
	pairs(func(a, b api.Int) {
		c := m.some(1 + m.IntN(4))
		x, y := zint.Mul(a, c), zint.Mul(b, c)
		g, s, u := zint.Bezout(x, y)
		if !same(g, zint.Gcd(x, y)) || !same(g, zint.Gcd(y, x)) || !same(g, zint.Gcd(zint.Neg(x), y)) {
			t.Fatalf("Gcd: %v, %v", x, y)
		}
		if !same(zint.Add(zint.Mul(s, x), zint.Mul(u, y)), g) {
			t.Fatalf("s a + t b: %v, %v: %v, %v, %v", x, y, g, s, u)
		}
		if zint.Sign(g) == 0 {
			return
		}
		for _, goes := range [][2]api.Int{{x, g}, {y, g}, {g, c}} {
			if _, e := zint.Exact(goes[0], goes[1]); e != api.OK {
				t.Fatalf("%v does not divide %v: %v, %v", goes[1], goes[0], x, y)
			}
		}
	})
}

func TestPowersAndRoots(t *testing.T) {
	m := newMaker(11)
	for range 300 {
		a, n, k := m.some(m.IntN(5)), m.IntN(30), m.IntN(30)
		x, _ := zint.Pow(a, n)
		y, _ := zint.Pow(a, k)
		if sum, e := zint.Pow(a, n+k); e != api.OK || !same(sum, zint.Mul(x, y)) {
			t.Fatalf("powers %d, %d of %v", n, k, a)
		}
		if back, e := zint.Root(api.Int{Abs: x.Abs}, max(n, 1)); n > 0 && (e != api.OK || !same(back, zint.Norm(api.Int{Abs: a.Abs}))) {
			t.Fatalf("root of the power %d of %v: %v, %v", n, a, back, e)
		}
	}
}

func TestThereAndBack(t *testing.T) {
	pairs(func(a, b api.Int) {
		if back, e := zint.Parse(zint.Text(a)); e != api.OK || !same(back, zint.Norm(a)) {
			t.Fatalf("Parse of Text: %v: %v, %v", a, back, e)
		}
	})
}
