package short

import (
	"iter"

	"cleaver/api"
)

// Surely is what is proven, asked for by itself, as Find almost never comes to it.
func Surely(whole, h []api.Int, p, k int) []api.Int { return surely(whole, h, p, k) }

// Searched is what the search alone tells, and at how many places.
func Searched(whole, h []api.Int, p int) ([]api.Int, int, bool) {
	s, e := searchFor(whole, h, p)
	if e != api.OK {
		return nil, 0, false
	}
	z, ok := s.joined()
	n := 0
	for !ok && n < len(s.places) {
		s.gather(s.places[n])
		z, ok = s.joined()
		n++
	}
	return z, n, ok
}

// Rows are those of the search's first lattice.
func Rows(whole, h []api.Int, p int) iter.Seq[[]api.Int] {
	s, e := searchFor(whole, h, p)
	if e != api.OK {
		return nil
	}
	return s.rows(s.places[0])
}

// Multiples are the rows of the lattice by which what is proven is told.
func Multiples(h []api.Int, m api.Int, n int) iter.Seq[[]api.Int] { return multiples(h, m, n) }
