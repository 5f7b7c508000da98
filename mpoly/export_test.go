package mpoly

import (
	"cleaver/api"
	"cleaver/modulus"
)

// GoesInto is whether b goes into a, of numbers in the place of variables.
func GoesInto(b, a []api.Term) bool { return goesInto(plain(b), plain(a)) }

// Tries are the first primes by which that is asked, and the numbers in the variables' places.
func Tries(count int) (primes []uint64, places [][api.MaxVars]uint64) {
	l := &modulus.Lot{}
	for range count {
		t := newTry(l)
		for i, x := range t.places {
			t.places[i] = t.Plain(x)
		}
		primes, places = append(primes, t.P), append(places, t.places)
	}
	return primes, places
}
