package nat

import (
	"math/bits"

	"cleaver/api"
)

// Div is how often one goes into another one, and the rest.
func Div(a, b []uint64) ([]uint64, []uint64, api.Errno) {
	a, b = trim(a), trim(b)
	switch {
	case len(b) == 0:
		return nil, nil, api.ErrZero
	case Cmp(a, b) < 0:
		return nil, Norm(a), api.OK
	case len(b) == 1:
		quotient := Norm(a)
		rest := divLimb(quotient, b[0])
		return trim(quotient), trim([]uint64{rest}), api.OK
	}
	quotient, rest := divLong(a, b)
	return quotient, rest, api.OK
}

// divLimb divides z by d, which is not 0, where it stands, and answers the rest.
func divLimb(z []uint64, d uint64) uint64 {
	rest := uint64(0)
	for i := len(z) - 1; i >= 0; i-- {
		z[i], rest = bits.Div64(rest, z[i], d)
	}
	return rest
}

// divLong divides as on paper, limb by limb of the quotient (Knuth's algorithm D).
// Both are raised first till b's last bit is set: a limb guessed from the ends is then off by little.
// b has two limbs or more, a as many as b or more, and neither has noughts at the end.
func divLong(a, b []uint64) ([]uint64, []uint64) {
	up := bits.LeadingZeros64(b[len(b)-1])
	rest := make([]uint64, len(a)+1)
	addTimes(rest, a, 1<<up)
	by := make([]uint64, len(b))
	addTimes(by, b, 1<<up)
	quotient := make([]uint64, len(a)-len(b)+1)
	for i := len(quotient) - 1; i >= 0; i-- {
		quotient[i] = divStep(rest[i:i+len(by)+1], by)
	}
	return trim(quotient), Shr(rest, up)
}

// divStep answers how often by goes into rest, which is a limb longer, and leaves in rest what is left.
func divStep(rest, by []uint64) uint64 {
	limb := guess(rest, by)
	if takeTimes(rest, by, limb) != 0 {
		limb--
		addTimes(rest, by, 1)
	}
	return limb
}

// guess is how often by goes into rest, or 1 more, told by the last three limbs of rest and two of by.
func guess(rest, by []uint64) uint64 {
	n := len(by)
	last, second := by[n-1], by[n-2]
	limb, left, over := ^uint64(0), uint64(0), uint64(0)
	if rest[n] < last {
		limb, left = bits.Div64(rest[n], rest[n-1], last)
	} else { // what the last ones alone tell is too great for a limb
		left, over = bits.Add64(rest[n-1], last, 0)
	}
	for over == 0 { // once left has passed over a limb, no product is greater than it
		high, low := bits.Mul64(limb, second)
		if high < left || high == left && low <= rest[n-2] {
			break
		}
		limb--
		left, over = bits.Add64(left, last, 0)
	}
	return limb
}
