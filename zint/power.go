package zint

import (
	"math/bits"
	"slices"

	"cleaver/api"
	"cleaver/nat"
)

// The greatest exponents of a power and of a root, and the most bits that a power may have.
const (
	maxPower = 1 << 16
	maxRoot  = 64
	maxBits  = limbBits * api.MaxLimbs
)

// Pow is a power.
func Pow(a api.Int, n int) (api.Int, api.Errno) {
	switch {
	case n < 0 || n > maxPower:
		return api.Int{}, api.ErrArg
	case nat.Bits(a.Abs)*n > maxBits:
		return api.Int{}, api.ErrLimit
	}
	return signed(a.Neg && n%2 == 1, power(a.Abs, n)), api.OK
}

// power goes through n's bits from the highest one down.
func power(a []uint64, n int) []uint64 {
	z := []uint64{1}
	for i := bits.Len(uint(n)) - 1; i >= 0; i-- {
		z = nat.Mul(z, z)
		if n>>i&1 == 1 {
			z = nat.Mul(z, a)
		}
	}
	return z
}

// Root is a root, rounded down.
func Root(a api.Int, k int) (api.Int, api.Errno) {
	switch {
	case k < 1 || k > maxRoot || Sign(a) < 0:
		return api.Int{}, api.ErrArg
	case Sign(a) == 0:
		return api.Int{}, api.OK
	}
	return signed(false, root(a.Abs, k)), api.OK
}

// root comes down from above by Newton's way, whose steps never pass below the root; a is not 0.
func root(a []uint64, k int) []uint64 {
	z := aboveRoot(a, k)
	for {
		next := newton(a, z, k)
		if nat.Cmp(next, z) >= 0 {
			return z
		}
		z = next
	}
}

// newton is the mean of k numbers whose product is at most a, all but the last one z, rounded down.
func newton(a, z []uint64, k int) []uint64 {
	last, _, _ := nat.Div(a, power(z, k-1))
	sum := nat.Add(nat.Mul(z, []uint64{uint64(k - 1)}), last)
	mean, _, _ := nat.Div(sum, []uint64{uint64(k)})
	return mean
}

// aboveRoot is a number above the root.
// That of a long number is told by the root of its upper part, so that but few steps are left.
func aboveRoot(a []uint64, k int) []uint64 {
	width := (nat.Bits(a) + k - 1) / k
	low := width / (2 * limbBits)
	if low == 0 {
		above, _ := nat.Shl([]uint64{1}, width)
		return above
	}
	high := root(nat.Shr(a, low*limbBits*k), k)
	return slices.Concat(make([]uint64, low), nat.Add(high, []uint64{1}))
}
