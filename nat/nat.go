// Package nat is layer 1, natural numbers of any size: see shared/doc/01-nat.md.
package nat

import (
	"cmp"
	"math/bits"
)

// limbBits is how many bits a limb has.
const limbBits = 64

// Norm is a natural without noughts at the end.
func Norm(a []uint64) []uint64 {
	a = trim(a)
	plain := make([]uint64, len(a))
	copy(plain, a)
	return plain
}

// trim leaves out the noughts at the end; the limbs stay where they are.
func trim(a []uint64) []uint64 {
	n := len(a)
	for n > 0 && a[n-1] == 0 {
		n--
	}
	return a[:n]
}

// Cmp is -1, 0, 1, as one is less than, is, is greater than another one.
func Cmp(a, b []uint64) int {
	a, b = trim(a), trim(b)
	if len(a) != len(b) {
		return cmp.Compare(len(a), len(b))
	}
	for i := len(a) - 1; i >= 0; i-- {
		if a[i] != b[i] {
			return cmp.Compare(a[i], b[i])
		}
	}
	return 0
}

// Bits is how many bits it has.
func Bits(a []uint64) int {
	a = trim(a)
	if len(a) == 0 {
		return 0
	}
	last := len(a) - 1
	return last*limbBits + bits.Len64(a[last])
}
