package lattice

import (
	"math/bits"

	"cleaver/api"
	"cleaver/zint"
)

// limbBits is how many bits a limb has.
const limbBits = 64

// head is a number that is told by its first 64 bits alone: amount times 2^low, below 0 if neg is set. The highest bit of
// the amount is set, but for nought, which is the zero value. The bits behind are left out of all that is made of heads,
// so that is but near to what it should be.
type head struct {
	neg    bool
	amount uint64
	low    int
}

// headOf is that of a plain integer.
func headOf(a api.Int) head {
	n := len(a.Abs)
	switch n {
	case 0:
		return head{}
	case 1:
		return firstBits(a.Neg, a.Abs[0], 0, -limbBits)
	}
	return firstBits(a.Neg, a.Abs[n-1], a.Abs[n-2], limbBits*(n-2))
}

// firstBits is the head of two limbs, the upper one first, times 2^low.
func firstBits(neg bool, upper, lower uint64, low int) head {
	if upper == 0 {
		upper, lower, low = lower, 0, low-limbBits
	}
	if upper == 0 {
		return head{}
	}
	up := bits.LeadingZeros64(upper)
	return head{neg, upper<<up | lower>>(limbBits-up), low + limbBits - up}
}

// amountAlone is it without its sign.
func (a head) amountAlone() head { return head{false, a.amount, a.low} }

// minus is the difference.
func (a head) minus(b head) head {
	return a.plus(head{!b.neg, b.amount, b.low})
}

// plus is the sum.
func (a head) plus(b head) head {
	switch {
	case b.amount == 0:
		return a
	case a.amount == 0:
		return b
	case a.low < b.low || a.low == b.low && a.amount < b.amount: // the sign is that of the greater amount
		a, b = b, a
	}
	upper, lower := a.down(1) // so there is room for a sum
	otherUpper, otherLower := b.down(a.low - b.low + 1)
	over := uint64(0)
	if a.neg == b.neg {
		lower, over = bits.Add64(lower, otherLower, 0)
		upper += otherUpper + over
	} else {
		lower, over = bits.Sub64(lower, otherLower, 0)
		upper -= otherUpper + over
	}
	return firstBits(a.neg, upper, lower, a.low+1-limbBits)
}

// down is the amount by 2^n in two limbs, n being above 0; nothing of it, once it is far below the first one. A shift by a
// number below 0 is one by a great number here.
func (a head) down(n int) (uint64, uint64) {
	return a.amount >> n, a.amount << uint(limbBits-n)
}

// times is the product.
func (a head) times(b head) head {
	upper, lower := bits.Mul64(a.amount, b.amount)
	return firstBits(a.neg != b.neg, upper, lower, a.low+b.low)
}

// by is the quotient by one that is not nought. An amount without its lowest bit is less than any other one, so the
// quotient has room in a limb.
func (a head) by(b head) head {
	quotient, _ := bits.Div64(a.amount>>1, 0, b.amount)
	return firstBits(a.neg != b.neg, 0, quotient, a.low-b.low-(limbBits-1))
}

// isBelow: is it less than another one?
func (a head) isBelow(b head) bool { return a.minus(b).neg }

func (a head) isAboveNought() bool { return !a.neg && a.amount > 0 }

// nearest is the integer that is nearest to it; of two, the one farther from 0.
func (a head) nearest() api.Int {
	if down := -a.low; down > 0 {
		amount := a.amount>>down + a.amount>>(down-1)&1 // the bit behind is a half
		return zint.Norm(api.Int{Neg: a.neg, Abs: []uint64{amount}})
	}
	limbs, up := a.low/limbBits, a.low%limbBits
	amount := append(make([]uint64, limbs), a.amount<<up, a.amount>>(limbBits-up))
	return zint.Norm(api.Int{Neg: a.neg, Abs: amount})
}
