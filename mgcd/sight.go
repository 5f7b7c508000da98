package mgcd

import (
	"cleaver/api"
	"cleaver/modulus"
)

// sight is what was seen along a course, by one prime.
type sight struct {
	*basis
	start, step point
	ratios      [][]uint64 // by power of z, what each term is multiplied by from one look to the next, the top one being 1
	all         [][]uint64 // likewise, the terms at the start
	most        int        // how many terms there are at one power, at the most
}

// end is how a search ends.
type end int

const (
	again   end = iota // something was drawn that does not tell
	tooLong            // what is sought has more terms than may be
	found
)

// sees looks along a course until its rows are known, which tell how many terms there are, at the least; degree is that of all looks.
func (q *quest) sees(v *view) (s *sight, degree int, how end) {
	b := q.basis()
	s = &sight{basis: b, start: q.point(b.Modulus), step: q.point(b.Modulus)}
	c := q.course(b, v, s.start, s.step)
	var rows []*row
	var looks []dense
	for len(looks) <= 2*s.most {
		look := c.next()
		if look == nil || len(looks) > 0 && len(look) != len(looks[0]) {
			return nil, 0, again
		}
		if looks = append(looks, look); len(looks) == 1 {
			rows = newRows(b.Modulus, len(look)-1)
		}
		terms := 1
		for k, r := range rows {
			r.see(b.Modulus, look[k])
			terms, s.most = terms+r.count, max(s.most, r.count)
		}
		if terms > api.MaxTerms {
			return nil, len(rows), tooLong
		}
	}
	for _, r := range rows {
		ratios, ok := r.ratios(b.Modulus, &q.Lot)
		if !ok {
			return nil, 0, again
		}
		s.ratios = append(s.ratios, ratios)
	}
	s.all = s.shares(looks)
	return s, len(rows), found
}

// looks are the next ones, all of them of so many coefficients; nil, if they are not.
func (c *course) looks(count, length int) []dense {
	var all []dense
	for range count {
		look := c.next()
		if len(look) != length {
			return nil
		}
		all = append(all, look)
	}
	return all
}

// shares are the terms at the start of a course, by power of z: those that make the looks.
func (s *sight) shares(looks []dense) [][]uint64 {
	all := make([][]uint64, len(s.ratios))
	for k, ratios := range s.ratios {
		seen := make([]uint64, len(ratios))
		for j := range seen {
			seen[j] = looks[j][k]
		}
		all[k] = shares(s.Modulus, ratios, seen)
	}
	return all
}

// shares are the numbers x such that all x[i] times the j-th power of ratios[i] are seen[j], for each j. No two ratios are the same.
func shares(m *modulus.Modulus, ratios, seen []uint64) []uint64 {
	product := dense{m.One} // of z less each ratio
	for _, r := range ratios {
		next := make(dense, len(product)+1)
		copy(next[1:], product)
		takeTimes(m, next, product, r)
		product = next
	}
	x := make([]uint64, len(ratios))
	for i, r := range ratios {
		// by z less r, the product is 0 at all other ratios
		sum, at, c := uint64(0), uint64(0), uint64(0)
		for j := len(ratios) - 1; j >= 0; j-- {
			c = m.Plus(product[j+1], m.Times(c, r))
			sum, at = m.Plus(sum, m.Times(c, seen[j])), m.Plus(m.Times(at, r), c)
		}
		x[i] = m.Times(sum, m.Inverse(at))
	}
	return x
}
