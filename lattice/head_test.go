package lattice

import (
	"math/big"
	"math/rand/v2"
	"testing"

	"cleaver/api"
	"cleaver/zint"
)

// P14.3: heads are asked for alone here, as a reduction sets right what they are off by.

// exactly is what a head is, by the library.
func exactly(a head) *big.Rat {
	amount := new(big.Int).SetUint64(a.amount)
	if a.neg {
		amount.Neg(amount)
	}
	if a.low < 0 {
		return new(big.Rat).SetFrac(amount, new(big.Int).Lsh(big.NewInt(1), uint(-a.low)))
	}
	return new(big.Rat).SetInt(amount.Lsh(amount, uint(a.low)))
}

// valueOf is an integer as the library has it.
func valueOf(a api.Int) *big.Int {
	v, _ := new(big.Int).SetString(zint.Text(a), 10)
	return v
}

// powerOfTwo is 2 to the power of -n.
func powerOfTwo(n int) *big.Rat { return exactly(head{amount: 1, low: -n}) }

// someHeads are those at which something turns, of either sign, and some others.
func someHeads() []head {
	list, m := []head{{}}, rand.New(rand.NewPCG(1, 1))
	for _, low := range []int{-300, -129, -128, -127, -126, -65, -64, -63, -62, -2, -1, 0, 1, 62, 63, 64, 65, 200} {
		for _, amount := range []uint64{1 << 63, 1<<63 + 1, 1<<64 - 1, 1<<64 - 2, 3 << 62, 5<<61 + 1, 1<<63 | m.Uint64()} {
			list = append(list, head{false, amount, low}, head{true, amount, low})
		}
	}
	return list
}

// isForm: is it nought as the zero value, or has it its highest bit?
func isForm(a head) bool { return a == head{} || a.amount>>63 == 1 }

// wantNear fails, unless a head has its form, and is off by no more than that.
func wantNear(t *testing.T, what string, a, b, is head, wanted, off *big.Rat) {
	t.Helper()
	left := new(big.Rat).Sub(exactly(is), wanted)
	if !isForm(is) || left.Abs(left).Cmp(off) > 0 {
		t.Fatalf("%v %s %v: %v, not %v", a, what, b, is, wanted.FloatString(20))
	}
}

// part is the amount of a by 2^n.
func part(a *big.Rat, n int) *big.Rat {
	z := new(big.Rat).Mul(a, powerOfTwo(n))
	return z.Abs(z)
}

func TestHeadsOfNumbers(t *testing.T) {
	m := rand.New(rand.NewPCG(2, 2))
	for limbs := range 6 {
		for range 200 {
			a := api.Int{Neg: m.IntN(2) == 1, Abs: make([]uint64, limbs)}
			for i := range a.Abs {
				a.Abs[i] = m.Uint64() >> m.IntN(64)
			}
			a = zint.Norm(a)
			is, wanted := headOf(a), new(big.Rat).SetInt(valueOf(a))
			wantNear(t, "of", head{}, head{}, is, wanted, part(wanted, 63))
			if bitsOf(a) <= 64 && exactly(is).Cmp(wanted) != 0 || bitsOf(a) != wanted.Num().BitLen() {
				t.Fatalf("%v: %v, %d bits", a, is, bitsOf(a))
			}
			if isAbove := wanted.Sign() > 0; is.isAboveNought() != isAbove {
				t.Fatalf("%v: %v", a, is)
			}
		}
	}
}

func TestSumsOfHeads(t *testing.T) {
	for _, a := range someHeads() {
		for _, b := range someHeads() {
			x, y := exactly(a), exactly(b)
			behind := new(big.Rat).Add(part(x, 126), part(y, 126)) // of the shorter one so much is left out ahead of the sum
			sum, difference := new(big.Rat).Add(x, y), new(big.Rat).Sub(x, y)
			wantNear(t, "plus", a, b, a.plus(b), sum, new(big.Rat).Add(part(sum, 63), behind))
			wantNear(t, "minus", a, b, a.minus(b), difference, new(big.Rat).Add(part(difference, 63), behind))
			if a.isBelow(b) != (x.Cmp(y) < 0) {
				t.Fatalf("%v below %v: %v", a, b, a.isBelow(b))
			}
		}
	}
}

func TestProductsOfHeads(t *testing.T) {
	for _, a := range someHeads() {
		for _, b := range someHeads() {
			x, y := exactly(a), exactly(b)
			product := new(big.Rat).Mul(x, y)
			wantNear(t, "times", a, b, a.times(b), product, part(product, 63))
			if y.Sign() != 0 {
				quotient := new(big.Rat).Quo(x, y)
				wantNear(t, "by", a, b, a.by(b), quotient, part(quotient, 61))
			}
		}
	}
}

// rounded is the integer that is nearest; of two, the one farther from 0.
func rounded(a *big.Rat) *big.Int {
	twice := new(big.Rat).Mul(new(big.Rat).Abs(a), big.NewRat(2, 1))
	twice.Add(twice, big.NewRat(1, 1))
	z := new(big.Int).Quo(twice.Num(), new(big.Int).Mul(twice.Denom(), big.NewInt(2)))
	if a.Sign() < 0 {
		z.Neg(z)
	}
	return z
}

func TestNearestOfHeads(t *testing.T) {
	m, list := rand.New(rand.NewPCG(3, 3)), someHeads()
	for low := -70; low < 140; low++ {
		list = append(list, head{false, 1 << 63, low}, head{true, 1<<64 - 1, low}, head{m.IntN(2) == 1, 1<<63 | m.Uint64(), low}, head{true, 1<<63 | 1<<m.IntN(63), low})
	}
	for _, a := range list {
		z, wanted := a.nearest(), rounded(exactly(a))
		if valueOf(z).Cmp(wanted) != 0 || bitsOf(z) != wanted.BitLen() {
			t.Fatalf("%v: %v, not %v", a, z, wanted)
		}
		if alone := a.amountAlone(); exactly(alone).Cmp(new(big.Rat).Abs(exactly(a))) != 0 {
			t.Fatalf("%v: %v", a, alone)
		}
	}
}
