package mgcd

import (
	"cleaver/api"
	"cleaver/modulus"
)

// Traces are what a quest's draws hang on.
func Traces(n int, sides ...[]api.Term) [4]uint64 { return questOf(n, sides).traces }

// FindBy is what a quest finds by known draws.
func FindBy(traces [4]uint64, n int, sides ...[]api.Term) ([]api.Term, bool) {
	q := questOf(n, sides)
	q.traces = traces
	z, may := q.find()
	return outer(n, z), may
}

// IsWholeBy is whether one is squarefree, by known draws.
func IsWholeBy(traces [4]uint64, n int, side []api.Term) bool {
	q := questOf(n, [][]api.Term{side})
	q.traces = traces
	return q.isWhole()
}

// Primes are the first ones of such draws.
func Primes(traces [4]uint64, count int) []uint64 {
	d := &draws{traces: traces}
	var all []uint64
	for range count {
		all = append(all, d.anew().P)
	}
	return all
}

// FirstPoint is where the looks of a quest's first search start; weights are those of z.
func FirstPoint(traces [4]uint64, n int, sides ...[]api.Term) (at, weights [api.MaxVars]uint64) {
	q := questOf(n, sides)
	q.traces = traces
	v := q.choose(q.degrees())
	b := q.basis()
	for i, x := range q.point(b.Modulus) {
		at[i], weights[i] = b.Plain(x), uint64(v.weights[i])
	}
	return at, weights
}

func questOf(n int, sides [][]api.Term) *quest {
	if len(sides) == 1 {
		return ofOne(n, inner(sides[0]))
	}
	return ofBoth(n, inner(sides[0]), inner(sides[1]))
}

// Row is how few terms make a row, and what they are multiplied by from one to the next; false: there are not as many.
func Row(m *modulus.Modulus, seen []uint64) (int, []uint64, bool) {
	r := newRows(m, 1)[0]
	for _, x := range seen {
		r.see(m, x)
	}
	ratios, ok := r.ratios(m, &modulus.Lot{})
	return r.count, ratios, ok
}

// Roots are those of a monic polynomial, the lowest coefficient first.
func Roots(m *modulus.Modulus, f []uint64) ([]uint64, bool) { return roots(m, &modulus.Lot{}, f) }

// Common is the greatest common divisor of two polynomials of one variable, the lowest coefficient first.
func Common(m *modulus.Modulus, a, b []uint64) []uint64 {
	return common(m, append(dense{}, a...), append(dense{}, b...))
}

// Last tells the last one of some things.
func Last[T any](things []T) T { return last(things) }
