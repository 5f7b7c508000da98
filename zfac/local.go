package zfac

import (
	"cleaver/api"
	"cleaver/ffac"
	"cleaver/hensel"
	"cleaver/prime"
	"cleaver/zint"
	"cleaver/zpoly"
	"cleaver/zsqf"
)

// maxPower is the highest power that a prime is raised to.
const maxPower = 1000

// wordBits is how many bits a word has.
const wordBits = 64

// weightStep makes one weight of another, by MaxPrime. It makes all residues but 0 of 1 before it comes back to it, in an
// order that no polynomial is likely to have anything to do with.
const weightStep = 48271

// local is a local factor: by the prime, by the power, and its share by the power.
type local struct {
	rests []int
	up    []api.Int
	word  uint64
}

// localsOf are the local factors of a primitive squarefree polynomial by a prime, and the power that they are brought up to.
// It is above the limit, and, where it may be, so high that words tell almost all choices from factors.
func localsOf(a []api.Int, p int, limit api.Int, draws []int) ([]local, api.Int) {
	rests, _ := zpoly.Mod(a, p)
	split, _ := ffac.Split(rests, p, draws)
	k := powerAbove(p, greater(limit, inWords(highestShare(a))))
	power, _ := hensel.Power(p, k)
	up, _ := hensel.Lift(a, split, p, k)
	locals := make([]local, len(split))
	for i, f := range up {
		locals[i] = local{split[i], f, word(share(a, f, power), power)}
	}
	return locals, power
}

// powerAbove is the least power of a prime that is above a number, or the highest one there is.
func powerAbove(p int, a api.Int) int {
	k := 1
	for power := zint.Of(p); k < maxPower && zint.Cmp(power, a) <= 0; k++ {
		power = zint.Mul(power, zint.Of(p))
	}
	return k
}

// share is that of a local factor, by the power. The share of a factor g of a is the sum of the coefficients of a by g, times
// g's derivative, each as often as its weight says. By the power it is the sum of the shares of all local factors of g.
func share(a, up []api.Int, power api.Int) api.Int {
	others, _, _ := hensel.Div(a, up, power)
	product, _ := hensel.Mul(others, zpoly.Deriv(up), power)
	sum, weight := api.Int{}, 1
	for _, c := range product {
		sum = zint.Add(sum, zint.Mul(zint.Of(weight), c))
		weight = weight * weightStep % api.MaxPrime
	}
	rest, _ := prime.Rest(sum, power)
	return rest
}

// highestShare is what the amount of a factor's share is at most. Two polynomials whose product is a have sums of all amounts
// of coefficients whose product is at most the bound (Mignotte). A derivative has at most as many times that sum as the
// degree says.
func highestShare(a []api.Int) api.Int {
	bound, _ := zsqf.Bound(a)
	return zint.Mul(zint.Of((len(a)-1)*api.MaxPrime), bound)
}

// word is a local factor's share: how many 2^64ths of the power it is, rounded down.
func word(share, power api.Int) uint64 {
	z, _, _ := zint.Div(inWords(share), power)
	if len(z.Abs) == 0 {
		return 0
	}
	return z.Abs[0] // there are no others, as the share is less than the power
}

// farthest is how far from 0, gone round at 2^64, the sum of the words of a factor's local ones is at most: each of them is
// rounded down by less than 1.
func farthest(a []api.Int, power api.Int) uint64 {
	const half = 1 << (wordBits - 1) // nothing is farther
	share, _, _ := zint.Div(inWords(highestShare(a)), power)
	far, ok := zint.Small(share)
	if !ok {
		return half
	}
	return min(uint64(far)+api.MaxDeg+1, half)
}

// inWords is a number times 2^64.
func inWords(a api.Int) api.Int {
	word, _ := zint.Pow(zint.Of(2), wordBits)
	return zint.Mul(a, word)
}

// greater is the greater one of two numbers.
func greater(a, b api.Int) api.Int {
	if zint.Cmp(a, b) < 0 {
		return b
	}
	return a
}
