package nat

// fewLimbs is below how many limbs it takes longer to part a factor than to go through its limbs.
const fewLimbs = 64

// Mul is the product.
func Mul(a, b []uint64) []uint64 {
	return trim(product(trim(a), trim(b)))
}

// product is the product, in as many limbs as both factors have together.
func product(a, b []uint64) []uint64 {
	if len(a) < len(b) {
		a, b = b, a
	}
	half := (len(a) + 1) / 2
	switch {
	case len(b) < fewLimbs:
		return rowProduct(a, b)
	case len(b) <= half:
		return lopsidedProduct(a, b, half)
	}
	return halvesProduct(a, b, half)
}

// rowProduct makes the product row by row.
func rowProduct(a, b []uint64) []uint64 {
	z := make([]uint64, len(a)+len(b))
	for i, limb := range b {
		addTimes(z[i:i+len(a)+1], a, limb)
	}
	return z
}

// lopsidedProduct parts a alone, as b has no upper half.
func lopsidedProduct(a, b []uint64, half int) []uint64 {
	z := make([]uint64, len(a)+len(b))
	copy(z, product(a[:half], b))
	addTimes(z[half:], product(a[half:], b), 1)
	return z
}

// halvesProduct makes do with three products of halves (Karatsuba's way):
// the crosswise ones are what the product of the halves' sums has more than the other two.
func halvesProduct(a, b []uint64, half int) []uint64 {
	low := product(a[:half], b[:half])
	high := product(a[half:], b[half:])
	cross := product(Add(a[:half], a[half:]), Add(b[:half], b[half:]))
	takeTimes(cross, trim(low), 1)
	takeTimes(cross, trim(high), 1)
	z := make([]uint64, len(a)+len(b))
	copy(z, low)
	copy(z[2*half:], high)
	addTimes(z[half:], trim(cross), 1)
	return z
}
