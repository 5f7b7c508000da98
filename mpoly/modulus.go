package mpoly

import (
	"math/bits"

	"cleaver/api"
)

// modulus is a number of 63 bits by which rests are taken. Each rest x stands as x 2^64, so that products take no division (Montgomery's way).
type modulus struct {
	p      uint64
	turn   uint64 // turn p is -1 by 2^64
	one    uint64 // 2^64 by p: how 1 stands
	square uint64 // 2^128 by p
}

// newModulus is that of an odd number.
func newModulus(p uint64) *modulus {
	over := p // of the inverse by 2^64 the lowest three bits are right, and twice as many each time
	for range 5 {
		over *= 2 - p*over
	}
	one := -p % p
	return &modulus{p, -over, one, bits.Rem64(one, 0, p)}
}

// step is (x y + c) by 2^64, by p: x and y are rests, c is any word.
func (m *modulus) step(x, y, c uint64) uint64 {
	high, low := bits.Mul64(x, y)
	low, carry := bits.Add64(low, c, 0)
	high += carry
	over, filled := bits.Mul64(low*m.turn, m.p)
	_, carry = bits.Add64(low, filled, 0)
	return m.once(high + over + carry)
}

// once takes p away from what may be up to twice as much.
func (m *modulus) once(z uint64) uint64 {
	if z < m.p {
		return z
	}
	return z - m.p
}

func (m *modulus) times(x, y uint64) uint64 { return m.step(x, y, 0) }

func (m *modulus) plus(x, y uint64) uint64 { return m.once(x + y) }

func (m *modulus) power(x, n uint64) uint64 {
	z := m.one
	for ; n > 0; n /= 2 {
		if n%2 == 1 {
			z = m.times(z, x)
		}
		x = m.times(x, x)
	}
	return z
}

// rest is that of an integer, by 2^64 (which is how step leaves it): it stands as that of the integer by 2^128.
func (m *modulus) rest(c api.Int) uint64 {
	r := uint64(0)
	for k := len(c.Abs) - 1; k >= 0; k-- {
		r = m.step(r, m.square, c.Abs[k])
	}
	if c.Neg && r > 0 {
		return m.p - r
	}
	return r
}

// isPrime: is an odd number of 63 bits a prime? The first twelve primes' powers tell it of all numbers below 2^64.
func isPrime(p uint64) bool {
	small := [...]uint64{2, 3, 5, 7, 11, 13, 17, 19, 23, 29, 31, 37}
	for _, s := range small {
		if p%s == 0 {
			return false
		}
	}
	m := newModulus(p)
	for _, s := range small {
		if !m.isLikePrime(m.times(s, m.square)) {
			return false
		}
	}
	return true
}

// isLikePrime: do the powers of a number come to 1 as they do by a prime, by -1 or at once (Miller and Rabin)?
func (m *modulus) isLikePrime(base uint64) bool {
	twos := bits.TrailingZeros64(m.p - 1)
	x := m.power(base, (m.p-1)>>twos)
	if x == m.one {
		return true
	}
	for range twos {
		if x == m.p-m.one {
			return true
		}
		x = m.times(x, x)
	}
	return false
}

// lot tells numbers that have nothing to do with what is handed in, always the same ones (Steele's and Vigna's splitmix).
type lot struct{ last uint64 }

func (l *lot) next() uint64 {
	l.last += 0x9e3779b97f4a7c15
	x := l.last
	x = (x ^ x>>30) * 0xbf58476d1ce4e5b9
	x = (x ^ x>>27) * 0x94d049bb133111eb
	return x ^ x>>31
}

// below is a number below p, which has 63 bits.
func (l *lot) below(p uint64) uint64 {
	x := l.next() >> 1
	for x >= p {
		x = l.next() >> 1
	}
	return x
}

// newPrime is a prime of 63 bits, each one as likely as any other.
func newPrime(l *lot) *modulus {
	p := l.next()>>2 | 1<<62 | 1
	for !isPrime(p) {
		p = l.next()>>2 | 1<<62 | 1
	}
	return newModulus(p)
}
