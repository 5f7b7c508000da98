package hensel

import (
	"slices"

	"cleaver/api"
	"cleaver/fpoly"
	"cleaver/zint"
	"cleaver/zpoly"
)

// keepsDegree tells that p, which is a prime, does not divide a plain polynomial's last coefficient. Nought has none.
func keepsDegree(a []api.Int, p int) bool {
	l, _ := zpoly.Mod(a, p)
	return len(a) > 0 && len(l) == len(a)
}

// areFactors tells that by p a, which keeps its degree there, is its last coefficient times the product of l, and that
// all of l are as they must be. It goes no farther than to the first one by which the product would be too long.
func areFactors(l [][]int, a []api.Int, p int) bool {
	whole, _ := zpoly.Mod(a, p)
	whole, _ = fpoly.Monic(whole, p)
	product := []int{1}
	for _, f := range l {
		if !mayBeFactor(f, p) || len(product)+len(f)-1 > len(whole) || !areApart(product, f, p) {
			return false
		}
		product, _ = fpoly.Mul(product, f, p)
	}
	return slices.Equal(product, whole)
}

// mayBeFactor: is a list of ints plain by p, monic, and of degree 1 or more?
func mayBeFactor(f []int, p int) bool {
	isNone := func(c int) bool { return c < 0 || c >= p }
	return len(f) > 1 && f[len(f)-1] == 1 && !slices.ContainsFunc(f, isNone)
}

// areApart: have two that are not nought no common divisor by p but 1?
func areApart(a, b []int, p int) bool {
	shared, _ := fpoly.Gcd(a, b, p)
	return len(shared) == 1
}

// monic is a polynomial by its last coefficient, by m, with which that has no common divisor.
func monic(a []api.Int, m api.Int) []api.Int {
	small := rests(a, m) // so that long numbers are gone through but once
	_, over, _ := zint.Bezout(small[len(small)-1], m)
	return rests(zpoly.Scale(small, over), m)
}

// lifted are the factors by p^k of a, which is monic, and by p the product of l. They are parted in halves: the product
// of each half is brought up, and then is what the half's factors are brought up to.
func lifted(a []api.Int, l [][]int, p, k int) [][]api.Int {
	switch len(l) {
	case 0:
		return nil
	case 1:
		return [][]api.Int{a}
	}
	half := len(l) / 2
	both := firstPair(productOf(l[:half], p), productOf(l[half:], p), p).factorsUpTo(k, a, p)
	return append(lifted(both[left], l[:half], p, k), lifted(both[right], l[half:], p, k)...)
}

// productOf is the product of some by p.
func productOf(l [][]int, p int) []int {
	z := []int{1}
	for _, f := range l {
		z, _ = fpoly.Mul(z, f, p)
	}
	return z
}
