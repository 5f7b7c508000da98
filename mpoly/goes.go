package mpoly

import (
	"math/bits"

	"cleaver/api"
	"cleaver/zint"
)

// primes are those by which rests are taken: great ones, so that hardly any number that is not 0 has the rest 0.
var primes = [3]uint64{1<<63 - 25, 1<<63 - 165, 1<<63 - 259}

// goesInto tells whether there is a q with a = q b, without q, which may have more terms than one can go through; neither a nor b is nought.
// There is one, if b's content goes into a's, and b into a for each variable, as polynomials of that one alone, whose coefficients may be
// divided by all that has it not: for what b is short of has none of the variables then. That is asked by great primes, with numbers in
// the place of the other variables. Where b does not go into a so, it never does; that it goes by all the primes, at places that have nothing
// to do with a and b, though not in truth, is one chance of some 2^100.
func goesInto(b, a []term) bool {
	if _, e := zint.Exact(content(a), content(b)); e != api.OK {
		return false
	}
	for i, degree := range degrees(b) {
		for _, p := range primes {
			if degree > 0 && !divides(seen(b, i, p), seen(a, i, p), p) {
				return false
			}
		}
	}
	return true
}

// seen is a polynomial of the variable i alone, by p, the others' places taken by numbers; the lowest coefficient first.
func seen(l []term, i int, p uint64) []uint64 {
	z := make([]uint64, degrees(l)[i]+1)
	numbers := othersOf(p)
	for _, t := range l {
		value := rest(t.c, p)
		for j, e := range t.at {
			if j != i {
				value = times(value, powerBy(numbers[j], uint64(e), p), p)
			}
		}
		z[t.at[i]] = (z[t.at[i]] + value) % p
	}
	return z
}

// othersOf are numbers that no one would think of; where they come from says nothing.
func othersOf(p uint64) [api.MaxVars]uint64 {
	numbers, last := [api.MaxVars]uint64{}, p
	for i := range numbers {
		last = last*6364136223846793005 + 1442695040888963407
		numbers[i] = (last ^ last>>29) % p
	}
	return numbers
}

// rest is that of an integer by p.
func rest(c api.Int, p uint64) uint64 {
	r := uint64(0)
	for k := len(c.Abs) - 1; k >= 0; k-- {
		r = bits.Rem64(r, c.Abs[k], p)
	}
	if c.Neg && r > 0 {
		return p - r
	}
	return r
}

func times(x, y, p uint64) uint64 {
	high, low := bits.Mul64(x, y)
	return bits.Rem64(high, low, p)
}

func powerBy(x, n, p uint64) uint64 {
	z := uint64(1)
	for ; n > 0; n /= 2 {
		if n%2 == 1 {
			z = times(z, x, p)
		}
		x = times(x, x, p)
	}
	return z
}

// divides: does b go into a, by p? It takes all rests in a's place.
func divides(b, a []uint64, p uint64) bool {
	for len(b) > 0 && b[len(b)-1] == 0 {
		b = b[:len(b)-1]
	}
	if len(b) > 0 {
		top := len(b) - 1
		over := powerBy(b[top], p-2, p) // the inverse, by Fermat
		for ; len(a) > top; a = a[:len(a)-1] {
			takeTimes(a[len(a)-len(b):], b, p-times(a[len(a)-1], over, p), p)
		}
	}
	for _, r := range a {
		if r != 0 {
			return false
		}
	}
	return true
}

// takeTimes adds to a that many times b, by p.
func takeTimes(a, b []uint64, n, p uint64) {
	for k, r := range b {
		a[k] = (a[k] + times(r, n, p)) % p
	}
}
