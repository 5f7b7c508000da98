package zfac

import (
	"iter"

	"cleaver/api"
)

// Primes are the primes, in the order in which they are tried.
func Primes() iter.Seq[int] { return primes }

// Best is the best prime, and whether the primes tell that a polynomial is irreducible.
func Best(a []api.Int) (int, bool) { return bestPrime(a) }

// Sums has a bit for each sum of some numbers.
func Sums(numbers []int) uint64 { return sums(numbers) }

// SurelyFree is whether primes tell that a polynomial is squarefree.
func SurelyFree(a []api.Int) bool { return isSurelyFree(a) }

// SurelyTooGreat is whether a polynomial is sure to be past the limit.
func SurelyTooGreat(a []api.Int) bool { return isSurelyTooGreat(a) }

// By are the factors of a primitive squarefree polynomial by any prime that may part it; short is asked where there are more
// choices than that.
func By(a []api.Int, p, most int, draws []int) [][]api.Int {
	return searchFor(a, p, limitOf(a), draws, most).all()
}

// ByShort is what short tells by itself.
func ByShort(a []api.Int, p int) ([]api.Int, bool) {
	return searchFor(a, p, limitOf(a), nil, 0).byShort()
}

// Words are the local factors by a prime, their words, and how far from 0 the sum of those of a factor may be.
func Words(a []api.Int, p int) ([][]int, []uint64, uint64) {
	s := searchFor(a, p, limitOf(a), nil, 0)
	var rests [][]int
	for _, l := range s.locals {
		rests = append(rests, l.rests)
	}
	return rests, s.words(), s.far
}

// Choices are the choices of words.
func Choices(words []uint64, size int, far uint64) iter.Seq[[]int] { return choices(words, size, far) }

// AreMore is whether there are more choices than that.
func AreMore(n, size, most int) bool { return areMore(n, size, most) }
