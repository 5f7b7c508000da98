package zint

import (
	"math/bits"

	"cleaver/nat"
)

// endRow is a row of Euclid's way between the ends of two numbers, a limb each:
// its number, and the amounts of how often the one and the other were taken into it.
// Of the two counts one is below 0, unless one is 0.
type endRow struct {
	number       uint64
	taken, other uint64
}

// leapEnds goes Euclid's way between the ends of two numbers, as far as its quotients are those of the whole numbers.
// It answers the last two rows, and by how many steps they are behind the first two.
func leapEnds(a, b uint64, whole bool) (endRow, endRow, int) {
	last, next := endRow{a, 1, 0}, endRow{b, 0, 1}
	steps := 0
	for next.number != 0 {
		after := last.less(last.number/next.number, next)
		if !whole && !after.isSure(next) {
			break
		}
		last, next = next, after
		steps++
	}
	return last, next, steps
}

// less is a row less so many times the next one; the counts' amounts grow, as their signs go by turns.
// None passes over a limb: a count times the number of the row ahead is at most one of the first two numbers.
func (r endRow) less(times uint64, next endRow) endRow {
	return endRow{r.number - times*next.number, r.taken + times*next.taken, r.other + times*next.other}
}

// isSure tells that the whole numbers have this row behind that one, too, whatever lies below the ends (Collins' test):
// what lies there turns a row's number by less than the greater one of its counts,
// so that the whole row's number, too, is from 0 on, and below that of the row ahead.
func (r endRow) isSure(ahead endRow) bool {
	return r.number >= max(r.taken, r.other) &&
		ahead.number-r.number >= max(ahead.taken+r.taken, ahead.other+r.other)
}

// sum is taken times a and other times b together.
func (r endRow) sum(a, b []uint64) []uint64 {
	return nat.Add(nat.Mul(a, []uint64{r.taken}), nat.Mul(b, []uint64{r.other}))
}

// difference is m times a less n times b, all in one go, as no leap takes longer than this.
// It is not below 0, and no longer than a and b, which are of one length.
func difference(a, b []uint64, m, n uint64) []uint64 {
	left := make([]uint64, len(a))
	overA, overB, short, carry := uint64(0), uint64(0), uint64(0), uint64(0)
	for i := range left {
		highA, lowA := bits.Mul64(a[i], m)
		highB, lowB := bits.Mul64(b[i], n)
		lowA, carry = bits.Add64(lowA, overA, 0)
		overA = highA + carry
		lowB, carry = bits.Add64(lowB, overB, 0)
		overB = highB + carry
		left[i], short = bits.Sub64(lowA, lowB, short)
	}
	return left[:(nat.Bits(left)+limbBits-1)/limbBits]
}
