package zpoly

import (
	"cleaver/api"
	"cleaver/prime"
)

// Mod are the rests of the coefficients.
func Mod(a []api.Int, p int) ([]int, api.Errno) {
	if p < 1 {
		return nil, api.ErrArg
	}
	isNone := func(rest int) bool { return rest == 0 }
	return made(len(a), isNone, func(place int) int {
		rest, _ := prime.Mod(a[place], p) // there are rests by p
		return rest
	}), api.OK
}

// Lift is the polynomial of rests.
func Lift(a []int) []api.Int { return Of(a...) }
