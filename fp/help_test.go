package fp_test

import (
	"math"
	"math/big"
	"math/rand/v2"
	"testing"

	"cleaver/api"
)

// isPrime tells it by all divisors there might be.
func isPrime(n int) bool {
	for d := 2; d*d <= n; d++ {
		if n%d == 0 {
			return false
		}
	}
	return n > 1 && n <= api.MaxPrime
}

// primes are the least ones, some in the midst, and the greatest ones.
func primes() []int {
	return []int{2, 3, 5, 7, 11, 13, 31, 97, 127, 251, 257, 1009, 4093, 32749, 32771, 46337, 46349, 65519, 65521}
}

// noPrimes are numbers by which there is no field.
func noPrimes() []int {
	return []int{math.MinInt, math.MinInt + 1, -65521, -7, -3, -2, -1, 0, 1, 4, 6, 9, 15, 25, 91, 561, 63001, 65520, 65522, 65536, 65537, 65539, 1<<31 - 1, 1<<61 - 1, math.MaxInt - 1, math.MaxInt}
}

// edges are residues at which something turns, most of them not plain.
func edges(p int) []int {
	all := []int{math.MinInt, math.MinInt + 1, -1 << 32, -1 << 31, -3, -2, -1, 0, 1, 2, 3, 1<<31 - 1, 1 << 31, 1 << 32, math.MaxInt - 1, math.MaxInt}
	for _, times := range []int{-65536, -2, -1, 1, 2, 65536, math.MaxInt / p, math.MinInt / p} {
		all = append(all, times*p)
		if times < math.MaxInt/p && times > math.MinInt/p {
			all = append(all, times*p-1, times*p+1)
		}
	}
	return append(all, p/2, p/2+1)
}

// newMaker makes numbers, always the same ones.
func newMaker(seed uint64) *rand.Rand { return rand.New(rand.NewPCG(seed, 0)) }

// pairs calls f with many pairs of residues by many primes: all plain ones by small primes, edges, long ones.
func pairs(f func(a, b, p int)) {
	m := newMaker(1)
	for _, p := range primes() {
		for a := range min(p, 32) {
			for b := range min(p, 32) {
				f(a, b, p)
			}
		}
		for _, a := range edges(p) {
			for _, b := range edges(p) {
				f(a, b, p)
			}
		}
		for range 500 {
			f(m.IntN(p), m.IntN(p), p)
			f(int(m.Uint64()), int(m.Uint64()), p)
		}
	}
}

// rest is that of a value as the library has it; the tests hold answers against it.
func rest(v *big.Int, p int) int {
	return int(new(big.Int).Mod(v, big.NewInt(int64(p))).Int64())
}

// value is a number as the library has it.
func value(n int) *big.Int { return big.NewInt(int64(n)) }

// want fails, unless a call answered that, and no error.
func want(t *testing.T, what string, a int, e api.Errno, wanted int) {
	t.Helper()
	if e != api.OK || a != wanted {
		t.Errorf("%s: %v, %v, not %v", what, a, e, wanted)
	}
}

// wantError fails, unless a call answered that error, and 0 beside it.
func wantError(t *testing.T, what string, a int, e, wanted api.Errno) {
	t.Helper()
	if e != wanted || a != 0 {
		t.Errorf("%s: %v, %v, not %v", what, a, e, wanted)
	}
}

// plain is what a call answers that may not answer an error.
func plain(t *testing.T, p int) func(a int, e api.Errno) int {
	return func(a int, e api.Errno) int {
		t.Helper()
		if e != api.OK || a < 0 || a >= p {
			t.Fatalf("by %v: %v, %v", p, a, e)
		}
		return a
	}
}
