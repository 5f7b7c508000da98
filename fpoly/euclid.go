package fpoly

import (
	"cleaver/api"
	"cleaver/fp"
)

// row is a row of Euclid's way: its polynomial, and how often each of the two that it began with was taken into it.
// Where nothing stands for how often in the first two rows, no row counts it.
type row [3][]int

// Gcd is the greatest common divisor.
func Gcd(a, b []int, p int) ([]int, api.Errno) {
	if e := fp.Check(p); e != api.OK {
		return nil, e
	}
	last := lastRow(row{plain(a, p)}, row{plain(b, p)}, p)
	return monic(last[0], p), api.OK
}

// Bezout is that, and of how many of both it is made.
func Bezout(a, b []int, p int) ([]int, []int, []int, api.Errno) {
	if e := fp.Check(p); e != api.OK {
		return nil, nil, nil, e
	}
	last := lastRow(row{plain(a, p), {1}, nil}, row{plain(b, p), nil, {1}}, p)
	over := overLast(last[0], p)
	for i := range last {
		last[i] = times(over, last[i], p)
	}
	return last[0], last[1], last[2], api.OK
}

// lastRow is the last one whose polynomial is not nought, of those behind last and next; last, if next's is.
func lastRow(last, next row, p int) row {
	for len(next[0]) > 0 {
		last, next = next, last.after(next, p)
	}
	return last
}

// after is the row behind next, which is the one behind r. It is made in r, which is a copy.
func (r row) after(next row, p int) row {
	quotient, rest := divided(r[0], next[0], p)
	r[0] = rest
	for i := 1; i < len(r); i++ {
		r[i] = less(max(len(r[i]), len(quotient)+len(next[i])), r[i], quotient, next[i], p)
	}
	return r
}
