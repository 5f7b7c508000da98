// Package modulus has rests by primes of 63 bits, for the layers of several variables: what is to be known of long polynomials is asked of
// their rests.
package modulus

import (
	"math/bits"

	"cleaver/api"
)

// Modulus is a number of 63 bits, its highest and lowest bit 1, by which rests are taken. Each rest x stands as x 2^64, so that products
// take no division (Montgomery's way).
type Modulus struct {
	P      uint64
	One    uint64 // 2^64 by P: how 1 stands
	turn   uint64 // turn P is -1 by 2^64
	square uint64 // 2^128 by P
}

// New is that of such a number.
func New(p uint64) *Modulus {
	over := p // of the inverse by 2^64 the lowest three bits are right, and twice as many each time
	for range 5 {
		over *= 2 - p*over
	}
	one := -p % p
	return &Modulus{p, one, -over, bits.Rem64(one, 0, p)}
}

// Low is what high 2^64 + low is by 2^64: how each product ends. high is below P.
func (m *Modulus) Low(high, low uint64) uint64 {
	over, filled := bits.Mul64(low*m.turn, m.P)
	_, carry := bits.Add64(low, filled, 0)
	return m.once(high + over + carry)
}

// once takes P away from what may be up to twice as much.
func (m *Modulus) once(z uint64) uint64 {
	if z < m.P {
		return z
	}
	return z - m.P
}

// Times is the product.
func (m *Modulus) Times(x, y uint64) uint64 {
	high, low := bits.Mul64(x, y)
	return m.Low(high, low)
}

// Plus is the sum.
func (m *Modulus) Plus(x, y uint64) uint64 { return m.once(x + y) }

// Minus is the difference.
func (m *Modulus) Minus(x, y uint64) uint64 {
	if x < y {
		return x + m.P - y
	}
	return x - y
}

// Power is x to the power of n.
func (m *Modulus) Power(x, n uint64) uint64 {
	z := m.One
	for ; n > 0; n /= 2 {
		if n%2 == 1 {
			z = m.Times(z, x)
		}
		x = m.Times(x, x)
	}
	return z
}

// Powers are those of a rest up to the power n.
func (m *Modulus) Powers(x uint64, n int) []uint64 {
	l := make([]uint64, n+1)
	l[0] = m.One
	for e := range n {
		l[e+1] = m.Times(l[e], x)
	}
	return l
}

// Inverse is 1 by x, if P is a prime (by Fermat); 0 of 0.
func (m *Modulus) Inverse(x uint64) uint64 {
	if x == m.One {
		return x
	}
	return m.Power(x, m.P-2)
}

// Of is the rest of a word, which may be above P.
func (m *Modulus) Of(x uint64) uint64 { return m.Times(x, m.square) }

// Plain is a rest as a number below P.
func (m *Modulus) Plain(x uint64) uint64 { return m.Low(0, x) }

// Rest is that of an integer.
func (m *Modulus) Rest(c api.Int) uint64 {
	r := uint64(0) // as it stands, by 2^128
	for k := len(c.Abs) - 1; k >= 0; k-- {
		high, low := bits.Mul64(r, m.square)
		low, carry := bits.Add64(low, c.Abs[k], 0)
		r = m.Low(high+carry, low)
	}
	r = m.Times(m.Times(r, m.square), m.square)
	if c.Neg {
		return m.Minus(0, r)
	}
	return r
}
