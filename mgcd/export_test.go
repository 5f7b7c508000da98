package mgcd

import (
	"cleaver/api"
	"cleaver/modulus"
)

// Drawn are the first primes that a quest draws, and the first point by each.
func Drawn(count int) (primes []uint64, points [][api.MaxVars]uint64) {
	return drawn(&quest{draws: &draws{}}, count)
}

// DrawnToBeSure are those by which it is made sure of degrees.
func DrawnToBeSure(count int) (primes []uint64, points [][api.MaxVars]uint64) {
	return drawn((&quest{}).toBeSure(), count)
}

func drawn(q *quest, count int) (primes []uint64, points [][api.MaxVars]uint64) {
	for range count {
		m := q.anew()
		at := q.point(m)
		for i, x := range at {
			at[i] = m.Plain(x)
		}
		primes, points = append(primes, m.P), append(points, at)
	}
	return primes, points
}

// FirstPoint is where the looks of a quest's first search start; weights are those of z.
func FirstPoint(n int, sides ...[]api.Term) (at, weights [api.MaxVars]uint64) {
	q := questOf(n, sides)
	v := q.choose(q.degrees())
	b := q.basis()
	for i, x := range q.point(b.Modulus) {
		at[i], weights[i] = b.Plain(x), uint64(v.weights[i])
	}
	return at, weights
}

// IsSure is whether looks at the variable i are of that degree as what is sought is.
func IsSure(n, i, degree int, sides ...[]api.Term) bool {
	q := questOf(n, sides)
	return q.isSure(q.alone(i), degree)
}

// Looks is how many looks at the variable i make that sure, and how many bits each tells.
func Looks(n, i int, sides ...[]api.Term) (count, telling int) {
	q := questOf(n, sides)
	v := q.alone(i)
	return q.looksToBeSure(v), q.telling(v)
}

// IsProved is whether z is what is sought, if looks reach farther than that does, by so much.
func IsProved(n, farther int, z []api.Term, sides ...[]api.Term) bool {
	q := questOf(n, sides)
	v := q.choose(q.degrees())
	return q.isProved(v, inner(z), reach(v, inner(z))+farther)
}

// Derived is what is derived of a polynomial.
func Derived(n int, a []api.Term) []api.Term { return outer(n, derived(inner(a))) }

func questOf(n int, sides [][]api.Term) *quest {
	if len(sides) == 1 {
		return ofOne(n, inner(sides[0]))
	}
	return ofBoth(n, inner(sides[0]), inner(sides[1]))
}

// Row is how few terms make a row, and what they are multiplied by from one to the next; false: there are not as many.
func Row(m *modulus.Modulus, seen []uint64) (int, []uint64, bool) {
	r := newRows(m, 1)[0]
	for _, x := range seen {
		r.see(m, x)
	}
	ratios, ok := r.ratios(m, &modulus.Lot{})
	return r.count, ratios, ok
}

// Roots are those of a monic polynomial, the lowest coefficient first.
func Roots(m *modulus.Modulus, f []uint64) ([]uint64, bool) { return roots(m, &modulus.Lot{}, f) }

// Common is the greatest common divisor of two polynomials of one variable, the lowest coefficient first.
func Common(m *modulus.Modulus, a, b []uint64) []uint64 {
	return common(m, append(dense{}, a...), append(dense{}, b...))
}

// Last tells the last one of some things.
func Last[T any](things []T) T { return last(things) }
