package nat

import "math/bits"

// addTimes adds m times y to z where it stands, limb after limb from the lowest one on,
// and answers what passes over z's end.
// z has at least as many limbs as y.
func addTimes(z, y []uint64, m uint64) uint64 {
	carry := uint64(0)
	next := func(here, limb uint64) uint64 {
		high, low := bits.Mul64(limb, m)
		low, over := bits.Add64(low, carry, 0)
		sum, more := bits.Add64(low, here, 0)
		carry = high + over + more
		return sum
	}
	for i, limb := range y {
		z[i] = next(z[i], limb)
	}
	for i := len(y); i < len(z); i++ {
		z[i] = next(z[i], 0)
	}
	return carry
}

// takeTimes takes m times y from z where it stands, limb after limb from the lowest one on,
// and answers what z's end is short of: 0, unless z was less than what was taken.
// z has at least as many limbs as y.
func takeTimes(z, y []uint64, m uint64) uint64 {
	carry := uint64(0)
	next := func(here, limb uint64) uint64 {
		high, low := bits.Mul64(limb, m)
		low, over := bits.Add64(low, carry, 0)
		left, short := bits.Sub64(here, low, 0)
		carry = high + over + short
		return left
	}
	for i, limb := range y {
		z[i] = next(z[i], limb)
	}
	for i := len(y); i < len(z); i++ {
		z[i] = next(z[i], 0)
	}
	return carry
}
