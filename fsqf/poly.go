package fsqf

import (
	"cleaver/api"
	"cleaver/fpoly"
)

// monic is what a call is asked about: numbers turn nothing in what its factors are. There is no such thing of nought.
func monic(a []int, p int) ([]int, api.Errno) {
	z, e := fpoly.Monic(a, p)
	if e != api.OK {
		return nil, e
	}
	if len(z) == 0 {
		return nil, api.ErrNought
	}
	return z, api.OK
}

// The prime is asked for by monic, and no divisor is nought, so the calls below answer no errors.

func gcd(a, b []int, p int) []int {
	z, _ := fpoly.Gcd(a, b, p)
	return z
}

func quotient(a, b []int, p int) []int {
	z, _, _ := fpoly.Div(a, b, p)
	return z
}

func times(a, b []int, p int) []int {
	z, _ := fpoly.Mul(a, b, p)
	return z
}

func derivative(a []int, p int) []int {
	z, _ := fpoly.Deriv(a, p)
	return z
}

// isConstant: has a plain polynomial that is not nought the degree 0?
func isConstant(a []int) bool { return len(a) == 1 }
