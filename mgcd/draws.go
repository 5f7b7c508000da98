package mgcd

import "cleaver/modulus"

// draws are what is drawn: the same for all that is handed in. Who knows it may make an answer wait, but turns none (see isProved, isSure).
type draws struct {
	modulus.Lot
	count uint64
}

// anew draws a prime. That, and all that is drawn behind it, hangs on how many primes were drawn ahead of it alone.
func (d *draws) anew() *modulus.Modulus {
	d.count++
	d.Last = d.count
	return d.Prime()
}
