package fp_test

import (
	"fmt"
	"math"
	"math/big"
	"testing"

	"cleaver/api"
	"cleaver/fp"
)

// P5.1

func TestCheck(t *testing.T) {
	for p := -100; p <= api.MaxPrime+100; p++ {
		wanted := api.OK
		if !isPrime(p) {
			wanted = api.ErrArg
		}
		if e := fp.Check(p); e != wanted {
			t.Errorf("%d: %v", p, e)
		}
	}
	for _, p := range noPrimes() {
		if e := fp.Check(p); e != api.ErrArg {
			t.Errorf("%d: %v", p, e)
		}
	}
}

func TestRed(t *testing.T) {
	moduli := append([]int{1, 4, 10, 65536, math.MaxInt - 1, math.MaxInt}, primes()...)
	m := newMaker(2)
	for _, p := range moduli {
		all := append(edges(p), int(m.Uint64()), int(m.Uint64()), m.IntN(p), -m.IntN(p))
		for a := -50; a <= 50; a++ {
			all = append(all, a)
		}
		for _, a := range all {
			if got, wanted := fp.Red(a, p), rest(value(a), p); got != wanted {
				t.Errorf("%d by %d: %d, not %d", a, p, got, wanted)
			}
		}
	}
}

func TestRedByNone(t *testing.T) {
	for _, p := range []int{0, -1, -2, -7, -65521, math.MinInt + 1, math.MinInt} {
		for _, a := range edges(7) {
			if got := fp.Red(a, p); got != 0 {
				t.Errorf("%d by %d: %d", a, p, got)
			}
		}
	}
}

// P5.2

func TestAddSubMul(t *testing.T) {
	pairs(func(a, b, p int) {
		x, y := value(a), value(b)
		sum, e := fp.Add(a, b, p)
		want(t, fmt.Sprintf("%d + %d by %d", a, b, p), sum, e, rest(new(big.Int).Add(x, y), p))
		difference, e := fp.Sub(a, b, p)
		want(t, fmt.Sprintf("%d - %d by %d", a, b, p), difference, e, rest(new(big.Int).Sub(x, y), p))
		product, e := fp.Mul(a, b, p)
		want(t, fmt.Sprintf("%d * %d by %d", a, b, p), product, e, rest(new(big.Int).Mul(x, y), p))
	})
}

func TestInv(t *testing.T) {
	for _, p := range primes() {
		for a := range p {
			got, e := fp.Inv(a, p)
			if a == 0 {
				wantError(t, fmt.Sprintf("0 by %d", p), got, e, api.ErrZero)
				continue
			}
			if e != api.OK || got < 0 || got >= p || got*a%p != 1 {
				t.Fatalf("%d by %d: %d, %v", a, p, got, e)
			}
		}
		for _, a := range edges(p) {
			got, e := fp.Inv(a, p)
			if over := new(big.Int).ModInverse(value(a), value(p)); over != nil {
				want(t, fmt.Sprintf("%d by %d", a, p), got, e, int(over.Int64()))
			} else {
				wantError(t, fmt.Sprintf("%d by %d", a, p), got, e, api.ErrZero)
			}
		}
	}
}

func TestDiv(t *testing.T) {
	pairs(func(a, b, p int) {
		what := fmt.Sprintf("%d / %d by %d", a, b, p)
		got, e := fp.Div(a, b, p)
		if over := new(big.Int).ModInverse(value(b), value(p)); over != nil {
			want(t, what, got, e, rest(over.Mul(over, value(a)), p))
		} else {
			wantError(t, what, got, e, api.ErrZero)
		}
	})
}

func TestPow(t *testing.T) {
	m := newMaker(3)
	for _, p := range primes() {
		exponents := []int{0, 1, 2, 3, 4, 5, 63, 64, 65, p - 2, p - 1, p, p + 1, 1 << 32, 1 << 62, math.MaxInt - 1, math.MaxInt, m.IntN(p), m.Int()}
		for _, a := range append(edges(p), m.IntN(p), m.IntN(p)) {
			for _, n := range exponents {
				got, e := fp.Pow(a, n, p)
				wanted := new(big.Int).Exp(value(rest(value(a), p)), value(n), value(p))
				want(t, fmt.Sprintf("%d ^ %d by %d", a, n, p), got, e, int(wanted.Int64()))
			}
			for _, n := range []int{-1, -2, 1 - p, math.MinInt + 1, math.MinInt} {
				got, e := fp.Pow(a, n, p)
				wantError(t, fmt.Sprintf("%d ^ %d by %d", a, n, p), got, e, api.ErrArg)
			}
		}
	}
}

// A number by which there is no field comes ahead of all that is wrong beside it: of a rest of 0, of an exponent below 0.
func TestNoField(t *testing.T) {
	for _, p := range noPrimes() {
		for _, a := range []int{math.MinInt, -1, 0, 1, 2, 5, 65521, p, math.MaxInt} {
			for _, b := range []int{math.MinInt, -1, 0, 1, 3, p, math.MaxInt} {
				for name, call := range map[string]func(a, b, p int) (int, api.Errno){
					"Add": fp.Add, "Sub": fp.Sub, "Mul": fp.Mul, "Div": fp.Div, "Pow": fp.Pow,
					"Inv": func(a, _, p int) (int, api.Errno) { return fp.Inv(a, p) },
				} {
					got, e := call(a, b, p)
					wantError(t, fmt.Sprintf("%s: %d, %d by %d", name, a, b, p), got, e, api.ErrArg)
				}
			}
		}
	}
}
