package prime_test

import (
	"math"
	"math/big"
	"testing"

	"cleaver/api"
	"cleaver/prime"
)

// P4.2, P4.3

// rest is the library's rest, which is not below 0, either.
func rest(a, m *big.Int) *big.Int { return new(big.Int).Mod(a, m) }

func TestMod(t *testing.T) {
	for _, m := range []int{1, 2, 3, 7, 10, 65521, 1 << 32, 1<<32 + 1, 1<<62 + 1, math.MaxInt - 1, math.MaxInt} {
		pairs(func(a, b api.Int) {
			is, e := prime.Mod(a, m)
			if e != api.OK || big.NewInt(int64(is)).Cmp(rest(value(a), big.NewInt(int64(m)))) != 0 {
				t.Fatalf("Mod(%v, %d): %d, %v", a, m, is, e)
			}
		})
	}
}

func TestModRefuses(t *testing.T) {
	for _, m := range []int{0, -1, -2, -7, math.MinInt, math.MinInt + 1} {
		for _, a := range edges() {
			if is, e := prime.Mod(a, m); is != 0 || e != api.ErrArg {
				t.Errorf("Mod(%v, %d): %d, %v", a, m, is, e)
			}
		}
	}
}

func TestRest(t *testing.T) {
	for _, c := range []struct{ a, m, is int }{
		{7, 3, 1}, {-7, 3, 2}, {6, 3, 0}, {-6, 3, 0}, {2, 3, 2}, {3, 3, 0}, {-1, 5, 4}, {-5, 5, 0}, {0, 1, 0}, {9, 1, 0}, {-9, 1, 0}, {0, 5, 0},
	} {
		is, e := prime.Rest(small(c.a), small(c.m))
		wantInt(t, "Rest", is, e, big.NewInt(int64(c.is)))
	}
	pairs(func(a, m api.Int) {
		is, e := prime.Rest(a, m)
		if value(m).Sign() < 1 {
			wantError(t, "Rest", is, e, api.ErrArg)
			return
		}
		wantInt(t, "Rest", is, e, rest(value(a), value(m)))
	})
}

func TestNearOfSmallOnes(t *testing.T) {
	for _, c := range []struct{ a, m, is int }{
		{5, 8, -3}, {4, 8, 4}, {3, 8, 3}, {-4, 8, 4}, {-3, 8, -3}, {-5, 8, 3}, {8, 8, 0}, {12, 8, 4}, {-12, 8, 4},
		{0, 1, 0}, {5, 1, 0}, {-5, 1, 0}, {1, 2, 1}, {-1, 2, 1}, {2, 2, 0}, {1, 3, 1}, {2, 3, -1}, {-1, 3, -1}, {3, 7, 3}, {4, 7, -3},
	} {
		is, e := prime.Near(small(c.a), small(c.m))
		wantInt(t, "Near", is, e, big.NewInt(int64(c.is)))
	}
}

func TestNear(t *testing.T) {
	pairs(func(a, m api.Int) {
		is, e := prime.Near(a, m)
		if value(m).Sign() < 1 {
			wantError(t, "Near", is, e, api.ErrArg)
			return
		}
		near := rest(value(a), value(m))
		if twice := new(big.Int).Lsh(near, 1); twice.Cmp(value(m)) > 0 {
			near.Sub(near, value(m))
		}
		wantInt(t, "Near", is, e, near)
	})
}

// Half of m is answered above 0, and what is next to it on its own side, also of m longer than a limb.
func TestNearAtTheHalf(t *testing.T) {
	m := newMaker(2)
	for range 200 {
		half := value(m.above(3))
		even := new(big.Int).Lsh(half, 1)
		odd := new(big.Int).Add(even, big.NewInt(1))
		for _, c := range []struct{ a, m, is *big.Int }{
			{half, even, half},
			{new(big.Int).Neg(half), even, half},
			{new(big.Int).Add(half, big.NewInt(1)), even, new(big.Int).Sub(big.NewInt(1), half)},
			{half, odd, half},
			{new(big.Int).Neg(half), odd, new(big.Int).Neg(half)},
			{new(big.Int).Add(half, big.NewInt(1)), odd, new(big.Int).Neg(half)},
		} {
			is, e := prime.Near(of(c.a), of(c.m))
			wantInt(t, "Near", is, e, c.is)
		}
	}
}

// checkCrt holds an answer against what is asked of it: its range, and both rests.
func checkCrt(t *testing.T, a, m, b, n api.Int) {
	t.Helper()
	is, e := prime.Crt(a, m, b, n)
	x, y := value(m), value(n)
	one := big.NewInt(1)
	if x.Sign() < 1 || y.Sign() < 1 || new(big.Int).GCD(nil, nil, x, y).Cmp(one) != 0 {
		wantError(t, "Crt", is, e, api.ErrArg)
		return
	}
	v := value(is)
	if e != api.OK || !same(is, of(v)) || v.Sign() < 0 || v.Cmp(new(big.Int).Mul(x, y)) >= 0 {
		t.Fatalf("Crt(%v, %v, %v, %v): %v, %v", a, m, b, n, is, e)
	}
	if rest(v, x).Cmp(rest(value(a), x)) != 0 || rest(v, y).Cmp(rest(value(b), y)) != 0 {
		t.Fatalf("Crt(%v, %v, %v, %v): %v: other rests", a, m, b, n, is)
	}
}

func TestCrtOfSmallOnes(t *testing.T) {
	is, e := prime.Crt(small(2), small(3), small(3), small(5))
	wantInt(t, "Crt(2, 3, 3, 5)", is, e, big.NewInt(8))
	for m := -2; m <= 12; m++ {
		for n := -2; n <= 12; n++ {
			for a := -3; a <= m+3; a++ {
				for b := -3; b <= n+3; b++ {
					checkCrt(t, small(a), small(m), small(b), small(n))
				}
			}
		}
	}
}

func TestCrt(t *testing.T) {
	m := newMaker(3)
	pairs(func(x, y api.Int) {
		checkCrt(t, m.some(8), x, m.some(8), y)
		checkCrt(t, x, m.above(2), y, m.above(2))
	})
}

// Powers of two primes, as great as the document's limits let numbers be.
func TestCrtOfGreatOnes(t *testing.T) {
	m := newMaker(4)
	x := new(big.Int).Exp(big.NewInt(3), big.NewInt(40_000), nil)
	y := new(big.Int).Exp(big.NewInt(65521), big.NewInt(3000), nil)
	checkCrt(t, m.above(1500), of(x), m.above(1500), of(y))
	checkCrt(t, m.above(1500), of(x), m.above(1500), of(new(big.Int).Mul(y, big.NewInt(3))))
}

// Neither of them may be below 1, whichever it is, and whatever the other one is; numbers may not have a divisor in common, though their rests be the same.
func TestCrtRefuses(t *testing.T) {
	for _, c := range []struct{ a, m, b, n int }{
		{1, 0, 1, 5}, {1, 5, 1, 0}, {1, -3, 1, 5}, {1, 3, 1, -5}, {1, -1, 0, 1}, {0, 1, 0, -1}, {0, 0, 0, 0}, {0, 1, 0, 0}, {0, 0, 0, 1},
		{1, 4, 1, 6}, {1, 4, 0, 6}, {2, 5, 2, 5}, {0, 2, 0, 2}, {3, 9, 3, 3},
	} {
		is, e := prime.Crt(small(c.a), small(c.m), small(c.b), small(c.n))
		wantError(t, "Crt", is, e, api.ErrArg)
	}
}
