package fpoly

import "cleaver/fp"

// made is the plain polynomial of n coefficients, of which each is told by its place.
func made(n, p int, told func(place int) int) []int {
	z := make([]int, n)
	for place := range z {
		z[place] = fp.Red(told(place), p)
	}
	return trim(z)
}

// trim is a polynomial of plain residues without the noughts at its end.
func trim(a []int) []int {
	for len(a) > 0 && a[len(a)-1] == 0 {
		a = a[:len(a)-1]
	}
	return a
}

// plain is a polynomial, plain. All below but withTimes are for plain ones alone.
func plain(a []int, p int) []int {
	return made(len(a), p, func(place int) int { return a[place] })
}

// coefficient is the one at a place, 0 behind the end.
func coefficient(a []int, place int) int {
	if place >= len(a) {
		return 0
	}
	return a[place]
}

// withTimes is a and so many times b. Coefficients are brought to rests first: two of any size might have no room in one.
func withTimes(a []int, times int, b []int, p int) []int {
	return made(max(len(a), len(b)), p, func(place int) int {
		return fp.Red(coefficient(a, place), p) + times*fp.Red(coefficient(b, place), p)
	})
}

// times is so many times a.
func times(n int, a []int, p int) []int {
	return made(len(a), p, func(place int) int { return n * a[place] })
}

// product is that of two polynomials.
func product(a, b []int, p int) []int {
	return made(len(a)+len(b), p, func(place int) int { return sumAt(a, b, place) })
}

// less is what is left of a's first n coefficients, when those of the product of b and c are taken away.
func less(n int, a, b, c []int, p int) []int {
	return made(n, p, func(place int) int { return coefficient(a, place) - sumAt(b, c, place) })
}

// sumAt is the coefficient at a place of a product, which is not brought to its rest: a product of two residues has
// 32 bits at most, so there is room for the sum of as many as a list may be long, and one rest of all is sooner told.
func sumAt(a, b []int, place int) int {
	sum := 0
	for i := max(place-len(b)+1, 0); i <= place && i < len(a); i++ {
		sum += a[i] * b[place-i]
	}
	return sum
}
