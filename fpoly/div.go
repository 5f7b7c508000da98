package fpoly

import (
	"cleaver/api"
	"cleaver/fp"
)

// Div is how often one goes into another one, and the rest.
func Div(a, b []int, p int) ([]int, []int, api.Errno) {
	if e := fp.Check(p); e != api.OK {
		return nil, nil, e
	}
	by := plain(b, p)
	if len(by) == 0 {
		return nil, nil, api.ErrZero
	}
	quotient, rest := divided(plain(a, p), by, p)
	return quotient, rest, api.OK
}

// divided is how often b, which is not nought, goes into a, and the rest.
func divided(a, b []int, p int) ([]int, []int) {
	top, over := len(b)-1, overLast(b, p)
	quotient := make([]int, max(len(a)-top, 0))
	for i := len(quotient) - 1; i >= 0; i-- {
		left := a[i+top] - sumAt(quotient, b, i+top) // so far quotient has nothing but noughts up to i
		quotient[i] = fp.Red(fp.Red(left, p)*over, p)
	}
	return quotient, less(top, a, quotient, b, p)
}

// overLast is the inverse of the last coefficient; 1 of nought, which stays as it is by whatever it is multiplied.
func overLast(a []int, p int) int {
	if len(a) == 0 {
		return 1
	}
	over, _ := fp.Inv(a[len(a)-1], p) // the last one of a plain polynomial is not 0
	return over
}

// monic is a polynomial by its last coefficient.
func monic(a []int, p int) []int {
	return times(overLast(a, p), a, p)
}
