package mpoly

import (
	"cleaver/api"
	"cleaver/zint"
)

// division takes a polynomial's terms away, the first one first, by as many times another one: the front's left is that one but for its
// first term, its right the quotient.
type division struct {
	*front
	rest []term // of the one that is divided
}

// first is the first term of what is left; false: nothing is.
func (d *division) first() (term, bool) {
	for len(d.rest) > 0 || len(d.order) > 0 {
		if t := d.take(); zint.Sign(t.c) != 0 {
			return t, true
		}
	}
	return term{}, false
}

// take is what is left at the first exponents at which there is something; it may be nought.
func (d *division) take() term {
	way := 1 // from the rest's first exponents to the products'
	if len(d.rest) == 0 {
		way = -1
	} else if len(d.order) > 0 {
		way = compare(d.rest[0].at, d.order[0])
	}
	left := term{}
	if way >= 0 {
		left, d.rest = d.rest[0], d.rest[1:]
	}
	if way <= 0 {
		taken := d.front.take()
		left = term{taken.at, zint.Sub(left.c, taken.c)}
	}
	return left
}

// quotient is what is answered of a by b, which is not nought.
func quotient(n int, a, b []term) ([]api.Term, api.Errno) {
	highest := degrees(a).less(degrees(b)) // the quotient's, if there is one
	d := division{newFront(b[1:], nil), a}
	for len(d.right) <= api.MaxTerms {
		left, some := d.first()
		if !some {
			return told(n, d.right)
		}
		at := left.at.less(b[0].at)
		c, e := zint.Exact(left.c, b[0].c)
		if e != api.OK || !at.isWithin(highest) {
			return nil, api.ErrExact
		}
		d.grow(term{at, c})
	}
	if goesInto(b, a) {
		return nil, api.ErrLimit
	}
	return nil, api.ErrExact
}
