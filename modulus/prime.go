package modulus

import "math/bits"

// IsPrime: is an odd number of 63 bits a prime? The first twelve primes' powers tell it of all numbers below 2^64.
func IsPrime(p uint64) bool {
	small := [...]uint64{2, 3, 5, 7, 11, 13, 17, 19, 23, 29, 31, 37}
	for _, s := range small {
		if p%s == 0 {
			return false
		}
	}
	m := New(p)
	for _, s := range small {
		if !m.isLikePrime(m.Of(s)) {
			return false
		}
	}
	return true
}

// isLikePrime: do the powers of a number come to 1 as they do by a prime, by -1 or at once (Miller and Rabin)?
func (m *Modulus) isLikePrime(base uint64) bool {
	twos := bits.TrailingZeros64(m.P - 1)
	x := m.Power(base, (m.P-1)>>twos)
	if x == m.One {
		return true
	}
	for range twos {
		if x == m.P-m.One {
			return true
		}
		x = m.Times(x, x)
	}
	return false
}

// Lot tells numbers one after the other, each as likely as any other (Steele's and Vigna's splitmix); what it starts with tells all of them.
type Lot struct{ Last uint64 }

// Next is the next number.
func (l *Lot) Next() uint64 {
	l.Last += 0x9e3779b97f4a7c15
	x := l.Last
	x = (x ^ x>>30) * 0xbf58476d1ce4e5b9
	x = (x ^ x>>27) * 0x94d049bb133111eb
	return x ^ x>>31
}

// Below is a number below p, which has 63 bits.
func (l *Lot) Below(p uint64) uint64 {
	x := l.Next() >> 1
	for x >= p {
		x = l.Next() >> 1
	}
	return x
}

// Prime is by a prime of 63 bits, each one as likely as any other.
func (l *Lot) Prime() *Modulus {
	p := l.Next()>>2 | 1<<62 | 1
	for !IsPrime(p) {
		p = l.Next()>>2 | 1<<62 | 1
	}
	return New(p)
}
