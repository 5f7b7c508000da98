package mgcd

import (
	"cleaver/modulus"
	"cleaver/mpoly"
	"cleaver/zint"
)

// quest is what is sought of one polynomial, or of two: the sides, primitive, and divided by no variable. It is found by its looks, as
// polynomials of one variable by a prime.
type quest struct {
	*draws
	n     int
	sides [][]term
	look  func(m *modulus.Modulus, sides []dense) dense // what is sought, monic, as the sides look
	gain  int                                           // 1, if looks are of no lower degree than what is sought, -1, if of no higher one
}

// ofBoth is the quest for the greatest common divisor.
func ofBoth(n int, a, b []term) *quest {
	return &quest{&draws{}, n, [][]term{a, b}, lookOfBoth, 1}
}

// ofOne is the quest for the radical.
func ofOne(n int, a []term) *quest {
	return &quest{&draws{}, n, [][]term{a}, lookOfOne, -1}
}

// lookOfBoth: what divides both divides how both look, too; that may have more in common by chance.
func lookOfBoth(m *modulus.Modulus, sides []dense) dense {
	return common(m, sides[0], sides[1])
}

// lookOfOne: what is in a polynomial twice is so in how it looks; more may be by chance.
func lookOfOne(m *modulus.Modulus, sides []dense) dense {
	a := sides[0]
	twice := common(m, append(dense{}, a...), slope(m, a))
	z := goes(m, a, twice)
	inverse := m.Inverse(last(z))
	for k, c := range z {
		z[k] = m.Times(c, inverse)
	}
	return z
}

// find is what is sought; false: it has more terms than may be.
func (q *quest) find() ([]term, bool) {
	for {
		high := q.degrees()
		if z, known := q.known(high); known {
			return z, true
		}
		v := q.choose(high)
		z, degree, how := q.search(v, high)
		switch {
		case how == found && q.isProved(v, z, degree):
			return z, true
		case how == tooLong && q.isSure(v, degree):
			return nil, false
		}
	}
}

// search finds what is sought, of such degrees; degree is that of its looks.
func (q *quest) search(v *view, high exponents) (z []term, degree int, how end) {
	s, degree, how := q.sees(v)
	if how != found {
		return nil, degree, how
	}
	sh, ok := q.shape(v, s, high)
	lead, n := q.lead(v), &numerals{}
	for ok && !n.see(s.Modulus, s.coefficients(sh, high, s.Rest(lead))) {
		s, ok = q.sightOf(sh, v, high)
	}
	if !ok {
		return nil, 0, again
	}
	for _, places := range append(sh.places, []exponents{sh.top}) {
		for _, at := range places {
			z = append(z, term{at, n.number(len(z))})
		}
	}
	_, prim, _ := mpoly.Prim(q.n, outer(q.n, z))
	return inner(prim), degree, found
}

// degrees are what is known of those of what is sought, in each variable: if all others are numbers.
func (q *quest) degrees() exponents {
	high := exponents{}
	for i := range q.n {
		high[i] = len(q.glance(q.alone(i))) - 1
	}
	return high
}

// known is what is sought, if its degrees tell.
func (q *quest) known(high exponents) ([]term, bool) {
	if high == (exponents{}) {
		return []term{{high, zint.Of(1)}}, true
	}
	for _, side := range q.sides {
		if degrees(side) == high && q.holds(side) {
			return side, true
		}
	}
	return nil, false
}
