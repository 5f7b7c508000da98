package zfac

import (
	"slices"
	"sort"

	"cleaver/api"
	"cleaver/nat"
	"cleaver/zint"
	"cleaver/zpoly"
	"cleaver/zsqf"
)

// maxBits is how many bits the limit of what is factored may have: so each prime has a power above it.
const maxBits = 1000

// whole is what is to be factored: a polynomial's parts, by how often their factors are in it. The limit is twice what no
// factor's coefficient is above, times the last coefficient of the product of all parts: it says how high a power of a prime
// local factors are to be brought up to.
type whole struct {
	parts []zsqf.Part
	limit api.Int
}

// wholeOf is what a call is asked about. There is no such thing of nought, nor of what is too great.
func wholeOf(a []api.Int) (whole, api.Errno) {
	plain := zpoly.Norm(a)
	switch {
	case len(plain) == 0:
		return whole{}, api.ErrNought
	case len(plain)-1 > api.MaxDeg:
		return whole{}, api.ErrLimit
	case len(plain) == 1: // it has no parts, and no factors
		return whole{}, api.OK
	}
	parts, e := partsOf(zpoly.Prim(plain))
	if e != api.OK {
		return whole{}, e
	}
	radical := zpoly.Of(1)
	for _, part := range parts {
		radical = zpoly.Mul(radical, part.P)
	}
	limit := limitOf(radical)
	if nat.Bits(limit.Abs) > maxBits || !hasGoodPrime(radical) {
		return whole{}, api.ErrLimit
	}
	return whole{parts, limit}, api.OK
}

// limitOf is the limit, of the product of all parts.
func limitOf(radical []api.Int) api.Int {
	highest, _ := zsqf.Bound(radical)
	return zint.Mul(zint.Of(2), zint.Mul(highest, radical[len(radical)-1]))
}

// partsOf are those of a primitive polynomial of degree 1 or more. Only where primes tell neither that there is but one, nor
// that they are too great, is it asked what the polynomial has in common with its derivative, which takes far longer.
func partsOf(a []api.Int) ([]zsqf.Part, api.Errno) {
	switch {
	case isSurelyFree(a):
		return []zsqf.Part{{P: a, N: 1}}, api.OK
	case isSurelyTooGreat(a):
		return nil, api.ErrLimit
	}
	return zsqf.Parts(a)
}

// isSurelyTooGreat: is the limit of a primitive polynomial's parts sure to have more bits than it may?
//
// A polynomial's measure is the product of its last coefficient and all its roots' amounts that are above 1. No coefficient
// is greater than the measure times 2 to the power of the degree; no measure is greater than the root of the sum of the
// squares of all coefficients, which the limit is above. The measure of a product is the product of measures: so this one's
// is at most that of all parts' product, to the power of the greatest of their numbers.
func isSurelyTooGreat(a []api.Int) bool {
	often := highestNumber(a)
	return slices.ContainsFunc(a, func(c api.Int) bool { return nat.Bits(c.Abs) > len(a)-1+often*maxBits })
}

// isSquarefree: is there no factor that is in it twice?
func (w whole) isSquarefree() bool {
	return !slices.ContainsFunc(w.parts, func(part zsqf.Part) bool { return part.N > 1 })
}

// factors are those of all parts, in order.
func (w whole) factors(draws []int) []api.Factor {
	var all []api.Factor
	for _, part := range w.parts {
		for _, f := range factorsOf(part.P, w.limit, draws) {
			all = append(all, api.Factor{P: f, N: part.N})
		}
	}
	sort.Slice(all, func(i, j int) bool { return zpoly.Less(all[i].P, all[j].P) })
	return all
}
