package prime_test

import (
	"math"
	"testing"

	"cleaver/api"
	"cleaver/prime"
)

// P4.1

// beyond is far enough above MaxPrime that there are primes between.
const beyond = 3 * api.MaxPrime

// sieve tells of each number below n whether it is a prime, by Eratosthenes' way.
func sieve(n int) []bool {
	is := make([]bool, n)
	for i := 2; i < n; i++ {
		is[i] = true
	}
	for i := 2; i*i < n; i++ {
		for j := i * i; is[i] && j < n; j += i {
			is[j] = false
		}
	}
	return is
}

func TestIs(t *testing.T) {
	isPrime := sieve(beyond)
	for n, wanted := range isPrime {
		if is := prime.Is(n); is != (wanted && n <= 65521) {
			t.Errorf("Is(%d): %v", n, is)
		}
	}
	for n := -beyond; n < 0; n++ {
		if prime.Is(n) {
			t.Errorf("Is(%d)", n)
		}
	}
}

// Greater numbers are none, though they may be primes, or have the last bits of one.
func TestIsOfFar(t *testing.T) {
	for _, n := range []int{
		65536, 65537, 65539, 1<<16 + 3, 1<<31 - 1, 1<<32 + 2, 1<<32 + 7, 1<<32 + 65521, 1<<61 - 1, 1<<63 - 25, math.MaxInt, math.MaxInt - 1,
		-2, -7, -65521, -1<<32 + 7, math.MinInt, math.MinInt + 1, math.MinInt + 2, math.MinInt + 7,
	} {
		if prime.Is(n) {
			t.Errorf("Is(%d)", n)
		}
	}
}

func TestNext(t *testing.T) {
	isPrime := sieve(api.MaxPrime + 1)
	next := api.MaxPrime
	for n := api.MaxPrime - 1; n >= 0; n-- {
		if is, e := prime.Next(n); is != next || e != api.OK {
			t.Errorf("Next(%d): %d, %v, not %d", n, is, e, next)
		}
		if isPrime[n] {
			next = n
		}
	}
	if is, e := prime.Next(7); is != 11 || e != api.OK {
		t.Errorf("Next(7): %d, %v", is, e)
	}
}

func TestNextOfFar(t *testing.T) {
	for _, n := range []int{-1, -2, -3, -65521, -1 << 32, math.MinInt, math.MinInt + 1} {
		if is, e := prime.Next(n); is != 2 || e != api.OK {
			t.Errorf("Next(%d): %d, %v", n, is, e)
		}
	}
	for _, n := range []int{65521, 65522, 65536, 65537, 1 << 32, 1<<32 + 1, math.MaxInt - 1, math.MaxInt} {
		if is, e := prime.Next(n); is != 0 || e != api.ErrNone {
			t.Errorf("Next(%d): %d, %v", n, is, e)
		}
	}
}
