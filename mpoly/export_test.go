package mpoly

import "cleaver/api"

// GoesInto is whether b goes into a, of numbers in the place of variables.
func GoesInto(b, a []api.Term) bool { return goesInto(plain(b), plain(a)) }

// Primes are those by which that is asked.
func Primes() [3]uint64 { return primes }

// Rest is that of an integer by p.
func Rest(c api.Int, p uint64) uint64 { return rest(c, p) }
