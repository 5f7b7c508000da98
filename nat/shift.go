package nat

import "cleaver/api"

// maxShift is by how many bits a natural may be raised at once: as many as the greatest one has.
const maxShift = api.MaxLimbs * limbBits

// Shl is it times a power of two.
func Shl(a []uint64, n int) ([]uint64, api.Errno) {
	if n < 0 || n > maxShift {
		return nil, api.ErrArg
	}
	a = trim(a)
	limbs := n / limbBits
	raised := make([]uint64, limbs+len(a)+1)
	addTimes(raised[limbs:], a, 1<<(n%limbBits))
	return trim(raised), api.OK
}

// Shr is it by a power of two, rounded down.
func Shr(a []uint64, n int) []uint64 {
	n = max(n, 0)
	limbs := n / limbBits
	if limbs >= len(a) {
		return nil
	}
	down := n % limbBits
	lowered := Norm(a[limbs:])
	above := uint64(0)
	for i := len(lowered) - 1; i >= 0; i-- {
		limb := lowered[i]
		lowered[i] = limb>>down | above<<(limbBits-down)
		above = limb
	}
	return trim(lowered)
}
