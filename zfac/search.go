package zfac

import (
	"cmp"
	"slices"

	"cleaver/api"
	"cleaver/fpoly"
	"cleaver/hensel"
	"cleaver/short"
	"cleaver/zpoly"
)

// mostChoices is how many choices of so many local factors are gone through ahead of short.
const mostChoices = 1 << 24

// search is one for all factors of a primitive squarefree polynomial.
type search struct {
	left   []api.Int // what is left of it
	p      int       // the prime
	power  api.Int   // of it, by which the local factors are
	locals []local   // of what is left
	far    uint64    // how far from 0 the sum of a factor's words may be
	size   int       // each factor has at least so many local ones
	most   int       // how many choices are gone through ahead of short
}

// factorsOf are the irreducible factors of a primitive squarefree polynomial of degree 1 or more.
func factorsOf(a []api.Int, limit api.Int, draws []int) [][]api.Int {
	p, irreducible := bestPrime(a)
	if irreducible {
		return [][]api.Int{a}
	}
	return searchFor(a, p, limit, draws, mostChoices).all()
}

// searchFor is one that is yet to begin.
func searchFor(a []api.Int, p int, limit api.Int, draws []int, most int) *search {
	l, power := localsOf(a, p, limit, draws)
	return &search{left: a, p: p, power: power, locals: l, far: farthest(a, power), size: 1, most: most}
}

// all are all factors.
func (s *search) all() [][]api.Int {
	var factors [][]api.Int
	for len(s.locals) > 0 {
		f := s.next()
		factors = append(factors, f)
		s.take(f)
	}
	return factors
}

// next is an irreducible factor of what is left: the first one that a choice of local factors tells, those of the fewest
// first, so that it can't be parted; and if none tells one, all of it, as of two factors one has at most half of the local ones.
func (s *search) next() []api.Int {
	next := s.left
choosing:
	for ; 2*s.size <= len(s.locals); s.size++ {
		if areMore(len(s.locals), s.size, s.most) {
			if f, ok := s.byShort(); ok {
				return f
			}
		}
		for places := range choices(s.words(), s.size, s.far) {
			if f, ok := s.joined(places); ok {
				next = f
				break choosing
			}
		}
	}
	return next
}

// words are those of the local factors.
func (s *search) words() []uint64 {
	z := make([]uint64, len(s.locals))
	for i, l := range s.locals {
		z[i] = l.word
	}
	return z
}

// joined is the polynomial of the local factors at some places; false: it is no factor of what is left. The last coefficient
// of what is left is taken in place of its own: what all coefficients have in common then is left out.
func (s *search) joined(places []int) ([]api.Int, bool) {
	product := s.left[len(s.left)-1:]
	for _, place := range places {
		product, _ = hensel.Mul(product, s.locals[place].up, s.power)
	}
	near, _ := hensel.Near(product, s.power)
	z := zpoly.Prim(near)
	_, e := zpoly.Div(s.left, z)
	return z, e == api.OK
}

// byShort is the factor that the local factor of the highest degree belongs to; false: too high a power is needed.
func (s *search) byShort() ([]api.Int, bool) {
	first := slices.MaxFunc(s.locals, func(x, y local) int { return cmp.Compare(len(x.rests), len(y.rests)) })
	k, e := short.Need(s.left, s.p, len(first.rests)-1)
	if e != api.OK {
		return nil, false
	}
	rests, _ := zpoly.Mod(s.left, s.p)
	others, _, _ := fpoly.Div(rests, first.rests, s.p)
	others, _ = fpoly.Monic(others, s.p)
	both, _ := hensel.Lift(s.left, [][]int{first.rests, others}, s.p, k)
	z, e := short.Find(s.left, both[0], s.p, k)
	return z, e == api.OK
}

// take takes a factor, and its local ones, out of what is left.
func (s *search) take(f []api.Int) {
	s.left, _ = zpoly.Div(s.left, f)
	rests, _ := zpoly.Mod(f, s.p)
	s.locals = slices.DeleteFunc(s.locals, func(l local) bool {
		_, rest, _ := fpoly.Div(rests, l.rests, s.p)
		return len(rest) == 0
	})
}
