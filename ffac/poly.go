package ffac

import (
	"cmp"
	"slices"

	"cleaver/api"
	"cleaver/fpoly"
	"cleaver/fsqf"
	"cleaver/zint"
)

// monic is what a call is asked about: numbers turn nothing in what its factors are. There is no such thing of nought.
func monic(a []int, p int) ([]int, api.Errno) {
	z, e := fpoly.Monic(a, p)
	if e != api.OK {
		return nil, e
	}
	if len(z) == 0 {
		return nil, api.ErrNought
	}
	if len(z)-1 > api.MaxDeg {
		return nil, api.ErrLimit
	}
	return z, api.OK
}

// squarefree is the same, for the calls that take nothing else.
func squarefree(a []int, p int) ([]int, api.Errno) {
	z, e := monic(a, p)
	if e != api.OK {
		return nil, e
	}
	if !isSquarefree(z, p) {
		return nil, api.ErrArg
	}
	return z, api.OK
}

// The prime is asked for by monic, no divisor is nought, and no exponent is below 0, so the calls below answer no errors.

func isSquarefree(a []int, p int) bool {
	is, _ := fsqf.Is(a, p)
	return is
}

func gcd(a, b []int, p int) []int {
	z, _ := fpoly.Gcd(a, b, p)
	return z
}

func quotient(a, b []int, p int) []int {
	z, _, _ := fpoly.Div(a, b, p)
	return z
}

func rest(a, b []int, p int) []int {
	_, z, _ := fpoly.Div(a, b, p)
	return z
}

func times(a, b []int, p int) []int {
	z, _ := fpoly.Mul(a, b, p)
	return z
}

func plus(a, b []int, p int) []int {
	z, _ := fpoly.Add(a, b, p)
	return z
}

func minus(a, b []int, p int) []int {
	z, _ := fpoly.Sub(a, b, p)
	return z
}

// power is the rest by m of a times itself, n times.
func power(a []int, n int, m []int, p int) []int {
	z, _ := fpoly.PowMod(a, zint.Of(n), m, p)
	return z
}

// isConstant: has a plain polynomial no degree of 1 or more?
func isConstant(a []int) bool { return len(a) <= 1 }

// order is below 0, if a stands ahead of b, and above 0, if b does.
func order(a, b []int) int {
	if len(a) != len(b) {
		return cmp.Compare(len(a), len(b))
	}
	for place, c := range slices.Backward(a) {
		if c != b[place] {
			return cmp.Compare(c, b[place])
		}
	}
	return 0
}
