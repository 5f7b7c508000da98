package zint

import (
	"slices"

	"cleaver/api"
	"cleaver/nat"
)

// rows are the last two rows of Euclid's way: last, the one ahead, and next.
// Each has its number, and the amount of how often the first row's number was taken into it.
// Of the counts the one is from 0 on, the other one up to 0, by turns: odd tells that last's is that other one.
type rows struct {
	last, next       []uint64
	taken, nextTaken []uint64
	odd              bool
}

// firstRows are the amounts of a and b, with the count of a's; where that is none, too, no row counts.
func firstRows(a, b api.Int, taken []uint64) *rows {
	return &rows{last: nat.Norm(a.Abs), next: nat.Norm(b.Abs), taken: taken}
}

// goOn takes the rows on till next's number is 0.
func (r *rows) goOn() {
	for len(r.next) > 0 {
		if !r.leap() {
			r.step()
		}
	}
}

// step takes the rows on by one.
func (r *rows) step() {
	quotient, rest, _ := nat.Div(r.last, r.next)
	r.last, r.next = r.next, rest
	if r.counts() {
		r.taken, r.nextTaken = r.nextTaken, nat.Add(r.taken, nat.Mul(quotient, r.nextTaken))
	}
	r.odd = !r.odd
}

// leap takes the rows on by as many steps as the ends of both numbers tell for sure; false: by none.
// So all of a long number is gone through once for many steps (Lehmer's way).
func (r *rows) leap() bool {
	low := max(nat.Bits(r.last)-limbBits, nat.Bits(r.next)-limbBits, 0)
	last, next, steps := leapEnds(end(r.last, low), end(r.next, low), low == 0)
	if steps == 0 {
		return false
	}
	if r.counts() {
		r.taken, r.nextTaken = last.sum(r.taken, r.nextTaken), next.sum(r.taken, r.nextTaken)
	}
	length := max(len(r.last), len(r.next))
	a, b := lengthened(r.last, length), lengthened(r.next, length)
	if steps%2 == 0 { // the signs of what is taken of both go by turns
		r.last, r.next = difference(a, b, last.taken, last.other), difference(b, a, next.other, next.taken)
	} else {
		r.last, r.next = difference(b, a, last.other, last.taken), difference(a, b, next.taken, next.other)
		r.odd = !r.odd
	}
	return true
}

func (r *rows) counts() bool { return len(r.taken) > 0 || len(r.nextTaken) > 0 }

// end is the limb that begins at a bit of a number.
func end(a []uint64, low int) uint64 {
	at, down := low/limbBits, low%limbBits
	z := uint64(0)
	if at < len(a) {
		z = a[at] >> down
	}
	if at+1 < len(a) {
		z |= a[at+1] << (limbBits - down)
	}
	return z
}

// lengthened is a number in so many limbs.
func lengthened(a []uint64, length int) []uint64 {
	if len(a) == length {
		return a
	}
	return slices.Concat(a, make([]uint64, length-len(a)))
}
