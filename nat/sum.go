package nat

import "cleaver/api"

// Add is the sum.
func Add(a, b []uint64) []uint64 {
	a, b = trim(a), trim(b)
	sum := make([]uint64, max(len(a), len(b))+1)
	copy(sum, a)
	addTimes(sum, b, 1)
	return trim(sum)
}

// Sub is the difference.
func Sub(a, b []uint64) ([]uint64, api.Errno) {
	if Cmp(a, b) < 0 {
		return nil, api.ErrArg
	}
	left := Norm(a)
	takeTimes(left, trim(b), 1)
	return trim(left), api.OK
}
