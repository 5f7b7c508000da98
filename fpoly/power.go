package fpoly

import (
	"slices"

	"cleaver/api"
	"cleaver/fp"
	"cleaver/zint"
)

// limbBits is how many bits a limb has.
const limbBits = 64

// PowMod is a power's rest.
func PowMod(a []int, n api.Int, m []int, p int) ([]int, api.Errno) {
	if e := fp.Check(p); e != api.OK {
		return nil, e
	}
	if zint.Sign(n) < 0 {
		return nil, api.ErrArg
	}
	by := plain(m, p)
	if len(by) == 0 {
		return nil, api.ErrZero
	}
	return power(plain(a, p), zint.Norm(n).Abs, by, p), api.OK
}

// power is the rest by m, which is not nought, of a times itself, n times. The bits of n are gone through from the
// highest one down: what is squared is then multiplied by a alone, which is often short.
func power(a []int, n []uint64, m []int, p int) []int {
	_, once := divided(a, m, p)
	_, z := divided([]int{1}, m, p)
	for _, limb := range slices.Backward(n) {
		for bit := limbBits - 1; bit >= 0; bit-- {
			_, z = divided(product(z, z, p), m, p)
			if limb>>bit&1 == 1 {
				_, z = divided(product(z, once, p), m, p)
			}
		}
	}
	return z
}
