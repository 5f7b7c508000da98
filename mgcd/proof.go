package mgcd

import (
	"cleaver/api"
	"cleaver/mpoly"
	"cleaver/zint"
)

// isProved: is z what is sought? Looks were of that degree, and z has to reach as far along the view: no two reach alike of which one
// divides the other, as the view has a corner, but for numbers.
//
// The greatest common divisor reaches no farther than looks do: so it is each z that divides both sides. The radical reaches no less far:
// so it is each z that divides the side, and is divided by all factors of it.
func (q *quest) isProved(v *view, z []term, degree int) bool {
	if reach(v, z) != degree {
		return false
	}
	if q.gain > 0 {
		return q.holds(z)
	}
	rest, e := mpoly.Div(q.n, outer(q.n, q.sides[0]), outer(q.n, z))
	switch e {
	case api.OK: // a factor that does not divide z is in the rest as often as in the side, which is more often than in what is derived
		return divides(q.n, inner(rest), derived(q.sides[0]))
	case api.ErrLimit:
		return q.isSimple(v, z, degree) && q.isSure(v, degree)
	}
	return false
}

// holds: does a polynomial divide all sides?
func (q *quest) holds(z []term) bool {
	for _, side := range q.sides {
		if !divides(q.n, z, side) {
			return false
		}
	}
	return true
}

// divides: does b divide a? A quotient that is too long is one.
func divides(n int, b, a []term) bool {
	_, e := mpoly.Div(n, outer(n, a), outer(n, b))
	return e == api.OK || e == api.ErrLimit
}

// derived takes each term as often as the number of its exponents' place tells. The numbers of two terms add up to that of their product,
// so that what is derived of a product is made of both factors as a derivative is. And no two terms have the same number, so that no
// irreducible polynomial but a variable divides what is derived of it: each factor is in what is derived just once less often.
func derived(l []term) []term {
	weights, next := exponents{}, 1
	for i, d := range degrees(l) {
		weights[i] = next
		next *= d + 1
	}
	var z []term
	for _, t := range l {
		if place := along(weights, t.at); place > 0 {
			z = append(z, term{t.at, zint.Mul(t.c, zint.Of(place))})
		}
	}
	return z
}

// isSimple: has z, which reaches that far, no factor twice? One look that has none twice is enough.
func (q *quest) isSimple(v *view, z []term, degree int) bool {
	once := &quest{q.draws, q.n, [][]term{z}, lookOfOne, -1}
	return len(once.glance(once.view(v.weights)))-1 == degree
}
