package zfac

import (
	"iter"

	"cleaver/api"
	"cleaver/ffac"
	"cleaver/prime"
	"cleaver/short"
	"cleaver/zpoly"
)

// greatOnes are the primes above it. They are taken first: there are few polynomials that they may not part, and lower powers
// of them are asked for.
const greatOnes = 60000

// enoughPrimes is by how many primes it is told whether a polynomial is squarefree: if it is, one of them tells almost always.
const enoughPrimes = 3

// mostPrimes is of how many primes that may part a polynomial the best one is taken.
const mostPrimes = 8

// primes tells all primes.
func primes(yield func(p int) bool) {
	for _, ends := range [...]struct{ above, last int }{{greatOnes, api.MaxPrime}, {0, greatOnes}} {
		for p, e := prime.Next(ends.above); e == api.OK && p <= ends.last; p, e = prime.Next(p) {
			if !yield(p) {
				return
			}
		}
	}
}

// goodPrimes tells those by which a polynomial may be parted.
func goodPrimes(a []api.Int) iter.Seq[int] {
	return func(yield func(p int) bool) {
		for p := range primes {
			if good, _ := short.Good(a, p); good && !yield(p) {
				return
			}
		}
	}
}

// hasGoodPrime: is there one?
func hasGoodPrime(a []api.Int) bool {
	for range goodPrimes(a) {
		return true
	}
	return false
}

// isSurelyFree: do primes tell that a polynomial is squarefree? It is, if it may be parted by one.
func isSurelyFree(a []api.Int) bool {
	tried := 0
	for p := range primes {
		if good, _ := short.Good(a, p); good {
			return true
		}
		if tried++; tried == enoughPrimes {
			break
		}
	}
	return false
}

// highestNumber is how often a polynomial has a factor by a prime that does not divide its last coefficient, at most: none is
// in it more often without the prime. It is the degree, if there is no such prime.
func highestNumber(a []api.Int) int {
	for p := range primes {
		rests, _ := zpoly.Mod(a, p)
		if len(rests) < len(a) {
			continue
		}
		highest := 0
		factors, _ := ffac.Factors(rests, p, nil)
		for _, f := range factors {
			highest = max(highest, f.N)
		}
		return highest
	}
	return len(a) - 1
}

// bestPrime is, of some by which a primitive polynomial may be parted, one by which it has the fewest factors. True: they
// tell that it is irreducible, as by each prime a factor's degree is the sum of some local factors' degrees.
func bestPrime(a []api.Int) (int, bool) {
	half := (len(a) - 1) / 2
	degrees := uint64(1)<<(half+1) - 2 // a bit for each that a factor may have, up to the half: of two, one has no more
	best, fewest, tried := 0, len(a), 0
	for p := range goodPrimes(a) {
		local := localDegrees(a, p)
		if len(local) < fewest {
			best, fewest = p, len(local)
		}
		degrees &= sums(local)
		if tried++; degrees == 0 || tried == mostPrimes {
			break
		}
	}
	return best, degrees == 0
}

// localDegrees are those of all local factors by a prime.
func localDegrees(a []api.Int, p int) []int {
	rests, _ := zpoly.Mod(a, p)
	products, _ := ffac.Degrees(rests, p)
	var degrees []int
	for i, product := range products {
		degree := i + 1
		for range (len(product) - 1) / degree {
			degrees = append(degrees, degree)
		}
	}
	return degrees
}

// sums has a bit for each sum of some of these numbers, as far as there are bits.
func sums(numbers []int) uint64 {
	z := uint64(1)
	for _, n := range numbers {
		z |= z << n
	}
	return z
}
