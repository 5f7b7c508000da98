package mpoly_test

import (
	"math/big"
	"testing"

	"cleaver/api"
	"cleaver/mpoly"
)

// What is asked by rests alone tells the same as a division, be the quotient long or not.
func TestGoesInto(t *testing.T) {
	check := func(n int, a, b []api.Term) {
		if len(norm(n, a)) == 0 || len(norm(n, b)) == 0 {
			return
		}
		if _, exact := quotient(n, a, b); mpoly.GoesInto(b, a) != exact {
			t.Fatalf("%s: not %v", said("GoesInto", n, b, a), exact)
		}
	}
	for _, a := range all(2, 1, 2) {
		for _, b := range all(2, 1, 1) {
			check(2, a, b)
		}
	}
	for _, a := range all(1, 3, 2) {
		for _, b := range all(1, 2, 2) {
			check(1, a, b)
		}
	}
	m := newMaker(8)
	for range 300 {
		n := m.IntN(4)
		a, b, c := m.some(n, 4, 2), m.some(n, 4, 2), m.some(n, 2, 1)
		check(n, a, b)
		check(n, times(n, a, b), b)
		check(n, plusTimes(n, times(n, a, b), 1, c), b)
		check(n, times(n, a, c), times(n, b, c))
	}
}

func TestPrimes(t *testing.T) {
	seen := map[uint64]int{}
	for _, p := range mpoly.Primes() {
		seen[p]++
		if !new(big.Int).SetUint64(p).ProbablyPrime(30) || p>>62 != 1 || seen[p] > 1 {
			t.Errorf("%d is no prime just below 2^63, or there twice", p)
		}
	}
}

func TestRests(t *testing.T) {
	m := newMaker(9)
	for range 200 {
		c := m.number()
		for _, p := range mpoly.Primes() {
			wanted := new(big.Int).Mod(value(c), new(big.Int).SetUint64(p))
			if r := mpoly.Rest(c, p); r != wanted.Uint64() {
				t.Fatalf("%s: %d, not %d", said("Rest", c, p), r, wanted)
			}
		}
	}
}
