package fp_test

import (
	"testing"

	"cleaver/fp"
)

// P5.3: what follows, told by the calls alone.

func TestField(t *testing.T) {
	m := newMaker(4)
	pairs(func(a, b, p int) {
		c := int(m.Uint64())
		one := plain(t, p)
		add := func(a, b int) int { return one(fp.Add(a, b, p)) }
		sub := func(a, b int) int { return one(fp.Sub(a, b, p)) }
		mul := func(a, b int) int { return one(fp.Mul(a, b, p)) }
		for _, law := range []struct {
			what        string
			left, right int
		}{
			{"a + b, b + a", add(a, b), add(b, a)},
			{"a b, b a", mul(a, b), mul(b, a)},
			{"(a + b) + c, a + (b + c)", add(add(a, b), c), add(a, add(b, c))},
			{"(a b) c, a (b c)", mul(mul(a, b), c), mul(a, mul(b, c))},
			{"c (a + b), c a + c b", mul(c, add(a, b)), add(mul(c, a), mul(c, b))},
			{"a + 0, a", add(a, 0), fp.Red(a, p)},
			{"a 1, a", mul(a, 1), fp.Red(a, p)},
			{"a + (0 - a), 0", add(a, sub(0, a)), 0},
			{"(a + b) - b, a", sub(add(a, b), b), fp.Red(a, p)},
			{"(a - b) + b, a", add(sub(a, b), b), fp.Red(a, p)},
		} {
			if law.left != law.right {
				t.Fatalf("%s: %v, %v, %v by %v: %v, %v", law.what, a, b, c, p, law.left, law.right)
			}
		}
	})
}

func TestEachHasItsInverse(t *testing.T) {
	pairs(func(a, b, p int) {
		if fp.Red(b, p) == 0 {
			return
		}
		one := plain(t, p)
		over := one(fp.Inv(b, p))
		by := one(fp.Div(a, b, p))
		if one(fp.Mul(b, over, p)) != 1 || one(fp.Inv(over, p)) != fp.Red(b, p) {
			t.Fatalf("1 / %v by %v: %v", b, p, over)
		}
		if by != one(fp.Mul(a, over, p)) || one(fp.Mul(by, b, p)) != fp.Red(a, p) {
			t.Fatalf("%v / %v by %v: %v", a, b, p, by)
		}
	})
}

func TestPowerOfPIsItself(t *testing.T) {
	for _, p := range primes() {
		one := plain(t, p)
		for a := range p {
			if got := one(fp.Pow(a, p, p)); got != a {
				t.Fatalf("%v ^ %v: %v", a, p, got)
			}
		}
		for _, a := range edges(p) {
			if got := one(fp.Pow(a, p, p)); got != fp.Red(a, p) {
				t.Fatalf("%v ^ %v: %v", a, p, got)
			}
		}
	}
}

// A power goes on from the one below it, and the one with the exponent 0 is 1.
func TestPowersGoOn(t *testing.T) {
	for _, p := range primes() {
		one := plain(t, p)
		for _, a := range edges(p) {
			wanted := 1
			for n := range 40 {
				if got := one(fp.Pow(a, n, p)); got != wanted {
					t.Fatalf("%v ^ %v by %v: %v, not %v", a, n, p, got, wanted)
				}
				wanted = one(fp.Mul(wanted, a, p))
			}
		}
	}
}
