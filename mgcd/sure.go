package mgcd

import (
	"math/bits"

	"cleaver/api"
)

// isSure: is what is sought of that degree, as some looks were? That is asked where no division can tell, as what would be divided may have
// 10^18 terms. One look that is nearer to what is sought shows for certain that it is not.
//
// If there is none among so many, it is, as no sides mislead all of them. A look misleads, if a minor of the rows of both sides' coefficients,
// which is not nought, is 0 by the look's prime, with its numbers in the variables' places. There are more than 2^56 primes from 2^62 to
// 2^63, of which so few divide all of the minor, and by another one it is 0 at so few of 2^62 places, that no more than one look of
// 2^telling misleads. All looks together tell 250 bits more than it takes to say the sides and the view. They are the same ones for all
// sides: so if they are as good as any, it is by a chance of one in 2^250 that there are even two sides, among all that may be handed in,
// of any length, whoever thinks them out, that mislead all of them.
func (q *quest) isSure(v *view, degree int) bool {
	other := q.toBeSure()
	for range q.looksToBeSure(v) {
		if q.gain*(len(other.glance(v))-1) < q.gain*degree {
			return false
		}
	}
	return true
}

// toBeSure is the same quest by other draws, none of those by which a degree is found.
func (q *quest) toBeSure() *quest {
	other := *q
	other.draws = &draws{count: 1 << 32}
	return &other
}

// looksToBeSure is how many looks are enough.
func (q *quest) looksToBeSure(v *view) int {
	said := 512 // no more than half of them say degrees, weights, and how many terms there are
	for _, side := range q.sides {
		said += bitsOf(side)
	}
	return said/q.telling(v) + 1
}

// bitsOf is how many bits say a polynomial's terms, one after the other: of each the exponents, and the number, its sign and length.
func bitsOf(l []term) int {
	places := 0
	for _, d := range degrees(l) {
		places += bits.Len(uint(d))
	}
	sum := 0
	for _, t := range l {
		length := lengthOf(t.c)
		sum += places + length + 2*bits.Len(uint(length))
	}
	return sum
}

// lengthOf is how many bits a number has that is not 0.
func lengthOf(c api.Int) int { return 64*len(c.Abs) - bits.LeadingZeros64(last(c.Abs)) }

// telling is how many bits a look tells, at the least. A minor has no more rows than both sides' degrees together, or one's and its slope's;
// so its degree is no more than that often that of a row, and its numbers are no longer than that often the sum of a row's numbers.
func (q *quest) telling(v *view) int {
	rows, length, degree := 0, 0, 0
	for s, side := range q.sides {
		longest, sum := 0, 0
		for _, t := range side {
			longest = max(longest, lengthOf(t.c))
		}
		for _, d := range degrees(side) {
			sum += d
		}
		rows += 2 * v.spans[s]
		length = max(length, longest+bits.Len(uint(len(side)))+bits.Len(uint(v.spans[s])))
		degree = max(degree, sum)
	}
	return max(1, 56-bits.Len(uint(rows*(length/62+degree/64+2))))
}
