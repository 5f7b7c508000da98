package mpoly

import "cleaver/api"

// GoesInto is whether b goes into a, of numbers in the place of variables.
func GoesInto(b, a []api.Term) bool { return goesInto(plain(b), plain(a)) }

// Tries are the first primes by which that is asked, and the numbers in the variables' places.
func Tries(count int) (primes []uint64, places [][api.MaxVars]uint64) {
	l := &lot{}
	for range count {
		t := newTry(l)
		for i, x := range t.places {
			t.places[i] = t.times(x, 1)
		}
		primes, places = append(primes, t.p), append(places, t.places)
	}
	return primes, places
}

// Rest is that of an integer by a number of 63 bits.
func Rest(c api.Int, p uint64) uint64 {
	m := newModulus(p)
	return m.times(m.rest(c), m.square)
}

// IsPrime is whether an odd number of 63 bits is a prime.
func IsPrime(p uint64) bool { return isPrime(p) }
