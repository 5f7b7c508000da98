package hensel

import (
	"cleaver/api"
	"cleaver/fpoly"
	"cleaver/zpoly"
)

// The places of a pair: two factors, and how many times each of them is taken so that both together make 1.
const (
	left = iota
	right
	leftTimes
	rightTimes
	places
)

// pair is what is brought up, and what it is made of, by a power of a prime. The factors are monic, and how many times each
// is taken is of a lower degree than the other one: so there is but one way to take them.
type pair [places][]api.Int

// firstPair is that of two monic polynomials of degree 1 or more that have no common divisor by p but 1.
func firstPair(a, b []int, p int) pair {
	_, s, t, _ := fpoly.Bezout(a, b, p)
	return pair{left: zpoly.Lift(a), right: zpoly.Lift(b), leftTimes: zpoly.Lift(s), rightTimes: zpoly.Lift(t)}
}

// factorsUpTo brings the factors of a pair by p up to p^k, where their product is a, which is monic. How often they are
// taken to make 1 is brought but to the power below: the last step asks for no more.
func (r pair) factorsUpTo(k int, a []api.Int, p int) pair {
	if k == 1 {
		return r
	}
	r = r.factorsUpTo(below(k), a, p).timesUpTo(below(k), p)
	low, high := stepTo(k, p)
	ofLeft, ofRight := r.shares(missing(a, zpoly.Mul(r[left], r[right]), low), high)
	r[left] = raised(r[left], ofRight, low) // what is taken of right makes left greater
	r[right] = raised(r[right], ofLeft, low)
	return r
}

// timesUpTo brings how often factors, which are by p^k already, are taken to make 1 up to that from the power below.
func (r pair) timesUpTo(k, p int) pair {
	if k == 1 {
		return r
	}
	low, high := stepTo(k, p)
	sum := zpoly.Add(zpoly.Mul(r[left], r[leftTimes]), zpoly.Mul(r[right], r[rightTimes]))
	ofLeft, ofRight := r.shares(missing(zpoly.Of(1), sum, low), high)
	r[leftTimes] = raised(r[leftTimes], ofLeft, low)
	r[rightTimes] = raised(r[rightTimes], ofRight, low)
	return r
}

// shares are how many times left and right are taken to make, by m, a polynomial of a lower degree than their product; m
// divides the power so far. Taken as often as 1 asks for, and that times a, they make a. They still do with the rests of
// these by the other factor: what is off then is so many times the product of both, and of too low a degree for that.
func (r pair) shares(a []api.Int, m api.Int) ([]api.Int, []api.Int) {
	return restOfProduct(r[leftTimes], a, r[right], m), restOfProduct(r[rightTimes], a, r[left], m)
}

// below is the power of p that is gone up from to p^k, k being above 1: what is right by p^n, a step makes right by p^2n.
func below(k int) int { return (k + 1) / 2 }

// stepTo is p to the power below, and times what that is p^k.
func stepTo(k, p int) (api.Int, api.Int) {
	low, _ := Power(p, below(k))
	high, _ := Power(p, k-below(k))
	return low, high
}

// missing is how many times low a polynomial that is the whole by low is short of it.
func missing(whole, a []api.Int, low api.Int) []api.Int {
	times, _ := zpoly.Div(zpoly.Sub(whole, a), []api.Int{low})
	return times
}

// raised is a polynomial, and so many times low more.
func raised(a, times []api.Int, low api.Int) []api.Int {
	return zpoly.Add(a, zpoly.Scale(times, low))
}
