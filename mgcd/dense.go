package mgcd

import (
	"math/bits"

	"cleaver/modulus"
)

// dense is a polynomial of one variable by a prime, the lowest coefficient first; the last one is not 0.
type dense []uint64

// trim leaves out what is 0 at the end.
func trim(a dense) dense {
	for len(a) > 0 && last(a) == 0 {
		a = a[:len(a)-1]
	}
	return a
}

// common is the greatest common divisor, monic, of two that are not both nought; both are written over.
func common(m *modulus.Modulus, a, b dense) dense {
	for a, b = trim(a), trim(b); len(b) > 0; {
		a, b = b, remainder(m, a, b)
	}
	inverse := m.Inverse(last(a))
	for k, c := range a {
		a[k] = m.Times(c, inverse)
	}
	return a
}

// remainder is what b leaves of a, in a's place. b is not nought.
func remainder(m *modulus.Modulus, a, b dense) dense {
	inverse := m.Inverse(last(b))
	for len(a) >= len(b) && len(b) > 1 {
		end := len(a) - 1
		times := m.Times(a[end], inverse)
		if len(a) == len(b) {
			takeTimes(m, a, b[:len(b)-1], times)
			a = trim(a[:end])
			continue
		}
		// two at once, as mostly there are two, and halves of products take no longer
		next := m.Times(m.Minus(a[end-1], m.Times(times, b[len(b)-2])), inverse)
		takeTwice(m, a[len(a)-len(b)-1:], b[:len(b)-1], times, next)
		a = trim(a[:end-1])
	}
	if len(b) == 1 {
		return nil
	}
	return a
}

// takeTimes takes b away from a that many times.
func takeTimes(m *modulus.Modulus, a, b dense, times uint64) {
	less := m.Minus(0, times)
	a = a[:len(b)]
	for k, c := range b {
		a[k] = m.Plus(a[k], m.Times(c, less))
	}
}

// takeTwice takes b away from a next times, and from a's coefficients after the first one that many times.
func takeTwice(m *modulus.Modulus, a, b dense, times, next uint64) {
	by := *m // so that it need not be read again after each coefficient is written
	times, next = by.Minus(0, times), by.Minus(0, next)
	a = a[:len(b)]
	before := uint64(0)
	for k, c := range b {
		high, low := bits.Mul64(before, times)
		over, under := bits.Mul64(c, next)
		low, carry := bits.Add64(low, under, 0)
		a[k] = by.Plus(a[k], by.Low(high+over+carry, low)) // two products are less than 2^64 primes
		before = c
	}
}

// goes is how often b, which is monic, goes into a, without a rest; a is written over.
func goes(m *modulus.Modulus, a, b dense) dense {
	q := make(dense, len(a)-len(b)+1)
	for k := len(q) - 1; k >= 0; k-- {
		q[k] = a[k+len(b)-1]
		takeTimes(m, a[k:], b[:len(b)-1], q[k])
	}
	return q
}

// slope is the derivative.
func slope(m *modulus.Modulus, a dense) dense {
	z := make(dense, max(len(a), 1)-1)
	for k := range z {
		z[k] = m.Times(a[k+1], m.Of(uint64(k+1)))
	}
	return z
}

// square is a's square.
func square(m *modulus.Modulus, a dense) dense {
	z := make(dense, max(2*len(a), 1)-1)
	for i, c := range a {
		double := m.Plus(c, c)
		z[2*i] = m.Plus(z[2*i], m.Times(c, c))
		for j := i + 1; j < len(a); j++ {
			z[i+j] = m.Plus(z[i+j], m.Times(double, a[j]))
		}
	}
	return z
}

// powerOf is x + shift to the power of n, by f, which is monic and of degree 2 or more.
func powerOf(m *modulus.Modulus, shift, n uint64, f dense) dense {
	z := dense{m.One}
	for k := bits.Len64(n) - 1; k >= 0; k-- {
		z = remainder(m, square(m, z), f)
		if n>>k&1 == 1 {
			more := make(dense, len(z)+1)
			copy(more[1:], z)
			for i, c := range z {
				more[i] = m.Plus(more[i], m.Times(c, shift))
			}
			z = remainder(m, more, f)
		}
	}
	return z
}

// roots are those of f, which is monic; false: it has not as many as its degree tells.
func roots(m *modulus.Modulus, l *modulus.Lot, f dense) ([]uint64, bool) {
	if len(f) > 2 {
		if z := powerOf(m, 0, m.P, f); len(z) != 2 || z[0] != 0 || z[1] != m.One {
			return nil, false
		}
	}
	var all []uint64
	for waiting := []dense{f}; len(waiting) > 0; {
		g := last(waiting)
		waiting = waiting[:len(waiting)-1]
		if len(g) > 2 {
			waiting = append(waiting, halves(m, l, g)...)
		} else if len(g) == 2 {
			all = append(all, m.Minus(0, g[0]))
		}
	}
	return all, true
}

// halves are two factors of f, which has as many roots as its degree tells, 2 or more: those for whose roots, all moved by one number, the
// (P-1)/2-th power is 1, and the others.
func halves(m *modulus.Modulus, l *modulus.Lot, f dense) []dense {
	for {
		z := powerOf(m, l.Below(m.P), m.P/2, f)
		z[0] = m.Minus(z[0], m.One)
		g := common(m, append(dense{}, f...), z)
		if len(g) > 1 && len(g) < len(f) {
			return []dense{g, goes(m, append(dense{}, f...), g)}
		}
	}
}
