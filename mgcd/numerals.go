package mgcd

import (
	"cleaver/api"
	"cleaver/modulus"
	"cleaver/zint"
)

// numerals are integers that are told by their rests by more and more primes. Each is a sum of digits, times the product of all primes
// ahead of its own; a digit is no more than half of its prime, or less than 0.
type numerals struct {
	primes []*modulus.Modulus
	digits [][]int64 // by number and prime
}

// see takes the numbers' rests by one prime more, and tells whether they need no digits by it.
func (n *numerals) see(m *modulus.Modulus, rests []uint64) bool {
	if n.digits == nil {
		n.digits = make([][]int64, len(rests))
	}
	before, product := make([]uint64, len(n.primes)), m.One
	for k, p := range n.primes {
		before[k] = m.Of(p.P)
		product = m.Times(product, before[k])
	}
	inverse, none := m.Inverse(product), true
	for i, r := range rests {
		known := uint64(0)
		for k := len(before) - 1; k >= 0; k-- {
			known = m.Plus(m.Times(known, before[k]), ofDigit(m, n.digits[i][k]))
		}
		digit := m.Plain(m.Times(m.Minus(r, known), inverse))
		none = none && digit == 0
		if digit > m.P/2 {
			digit -= m.P
		}
		n.digits[i] = append(n.digits[i], int64(digit))
	}
	n.primes = append(n.primes, m)
	return none
}

// ofDigit is a digit's rest.
func ofDigit(m *modulus.Modulus, d int64) uint64 {
	if d < 0 {
		return m.Minus(0, m.Of(uint64(-d)))
	}
	return m.Of(uint64(d))
}

// number is the i-th one.
func (n *numerals) number(i int) api.Int {
	z := api.Int{}
	for k := len(n.primes) - 1; k >= 0; k-- {
		z = zint.Mul(z, api.Int{Abs: []uint64{n.primes[k].P}})
		z = zint.Add(z, zint.Of(int(n.digits[i][k])))
	}
	return z
}
