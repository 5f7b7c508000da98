package mgcd

import (
	"cleaver/api"
	"cleaver/modulus"
)

// basis is a prime, and the rests of all sides' coefficients by it.
type basis struct {
	*modulus.Modulus
	rests [][]uint64
}

func (q *quest) basis() *basis {
	b := &basis{q.anew(), nil}
	for _, side := range q.sides {
		rests := make([]uint64, len(side))
		for k, t := range side {
			rests[k] = b.Rest(t.c)
		}
		b.rests = append(b.rests, rests)
	}
	return b
}

// point is a number for each variable, none of them 0.
type point [api.MaxVars]uint64

func (q *quest) point(m *modulus.Modulus) point {
	at := point{}
	for i := range at {
		at[i] = q.Below(m.P-1) + 1
	}
	return at
}

// powers are those of a point.
type powers struct {
	*modulus.Modulus
	of [api.MaxVars][]uint64
}

// powersOf are those of a point up to some exponents.
func powersOf(m *modulus.Modulus, at point, high exponents) *powers {
	p := &powers{Modulus: m}
	for i, x := range at {
		p.of[i] = m.Powers(x, high[i])
	}
	return p
}

// worth is the product of a point's powers.
func (p *powers) worth(at exponents) uint64 {
	z := p.One
	for i, e := range at {
		if e > 0 {
			z = p.Times(z, p.of[i][e])
		}
	}
	return z
}

// worths are those of all terms at a point, by side.
func (q *quest) worths(m *modulus.Modulus, at point) [][]uint64 {
	var all [][]uint64
	for _, side := range q.sides {
		p := powersOf(m, at, degrees(side))
		worths := make([]uint64, len(side))
		for k, t := range side {
			worths[k] = p.worth(t.at)
		}
		all = append(all, worths)
	}
	return all
}

// course is a way of looks: at a point, and on from each point to the next one, by the same steps.
type course struct {
	*basis
	*view
	look          func(m *modulus.Modulus, sides []dense) dense
	values, steps [][]uint64 // by side and term
}

func (q *quest) course(b *basis, v *view, start, step point) *course {
	c := q.stand(b, v, start)
	c.steps = q.worths(b.Modulus, step)
	return c
}

// stand is a course of one look alone.
func (q *quest) stand(b *basis, v *view, at point) *course {
	c := &course{basis: b, view: v, look: q.look, values: q.worths(b.Modulus, at)}
	for s, values := range c.values {
		for k, r := range b.rests[s] {
			values[k] = b.Times(values[k], r)
		}
	}
	return c
}

// next is the next look; nil, if it tells nothing.
func (c *course) next() dense {
	z := c.here()
	for s, values := range c.values {
		for k, step := range c.steps[s] {
			values[k] = c.Times(values[k], step)
		}
	}
	return z
}

// here is the look at the point where the course is; nil, if a side's first or last coefficient is 0, which tells nothing.
func (c *course) here() dense {
	sides := make([]dense, len(c.values))
	for s, values := range c.values {
		side, places := make(dense, c.spans[s]+1), c.places[s]
		for k, value := range values {
			side[places[k]] = c.Plus(side[places[k]], value)
		}
		if side[0] == 0 || last(side) == 0 {
			return nil // what divides the side might look as if it were of a lower degree
		}
		sides[s] = side
	}
	return c.look(c.Modulus, sides)
}

// glance is a look by a new prime, at a new point.
func (q *quest) glance(v *view) dense {
	for {
		b := q.basis()
		if z := q.stand(b, v, q.point(b.Modulus)).here(); z != nil {
			return z
		}
	}
}
