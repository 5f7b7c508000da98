package short

import (
	"math/bits"
	"slices"

	"cleaver/api"
	"cleaver/ffac"
	"cleaver/hensel"
	"cleaver/zint"
	"cleaver/zpoly"
	"cleaver/zsqf"
)

// mostPlaces is at how many places factors are held against each other. One tells almost always all, two where there is
// a symmetry about the first one.
const mostPlaces = 8

// search is one for the factor of a primitive polynomial that a local factor belongs to.
type search struct {
	whole  []api.Int
	places []api.Int
	power  api.Int     // by which the local factors are
	with   [][]api.Int // those that surely belong to the factor sought
	others [][]api.Int // those of which that is not known
}

// found is the factor of a primitive polynomial that h, a local factor by p^k, belongs to; k is what is needed.
// That the search finds it is not proven, but it does so almost always, and in far less time than what is proven takes.
func found(whole, h []api.Int, p, k int) []api.Int {
	if len(h) == len(whole) { // there are no other local factors
		return whole
	}
	if s, e := searchFor(whole, h, p); e == api.OK {
		if z, ok := s.factor(); ok {
			return z
		}
	}
	return surely(whole, h, p, k)
}

// searchFor is one that is yet to begin: h alone is known to belong to the factor sought. All local factors are brought up
// to a power of p of its own, most often a far lower one than the one needed.
func searchFor(whole, h []api.Int, p int) (*search, api.Errno) {
	first, _ := zpoly.Mod(h, p)
	rests, _ := zpoly.Mod(whole, p)
	locals, _ := ffac.Split(rests, p, nil)
	isFirst := func(f []int) bool { return slices.Equal(f, first) }
	locals = slices.Insert(slices.DeleteFunc(locals, isFirst), 0, first)

	s := &search{whole: whole, places: placesFor(whole)}
	k := powerAbove(zint.Of(p), s.greatest(len(locals)-1))
	lifted, e := hensel.Lift(whole, locals, p, k)
	if e != api.OK {
		return nil, e
	}
	s.power, _ = hensel.Power(p, k)
	s.with, s.others = [][]api.Int{lifted[0]}, lifted[1:]
	return s, api.OK
}

// placesFor are the first ones, from 2 on, at which a polynomial is not nought: where it is, nothing is told.
func placesFor(whole []api.Int) []api.Int {
	var places []api.Int
	for n := 2; len(places) < mostPlaces; n++ {
		if place := zint.Of(n); zint.Sign(zpoly.Eval(whole, place)) != 0 {
			places = append(places, place)
		}
	}
	return places
}

// greatest is what the power must be greater than: both what joined, and what gather asks for.
func (s *search) greatest(others int) api.Int {
	bound, _ := zsqf.Bound(s.whole)
	last := s.whole[len(s.whole)-1]
	ofJoined := zint.Mul(zint.Of(2), zint.Mul(last, bound)) // of either sign
	ofGather := zint.Mul(s.greatestValue(bound), room(others))
	if zint.Cmp(ofJoined, ofGather) > 0 {
		return ofJoined
	}
	return ofGather
}

// greatestValue is what a factor's value (see gather) is at most at all places. Two polynomials whose product is the whole
// have sums of all amounts of coefficients whose product is at most the bound (Mignotte). A derivative has at most as many
// times that sum as the degree says.
func (s *search) greatestValue(bound api.Int) api.Int {
	degree := len(s.whole) - 1
	return zint.Mul(zint.Mul(zint.Of(degree), bound), power(s.places[mostPlaces-1], degree))
}

// room is how many times the greatest value the power is to have, if there are so many others. Trials tell how much is
// enough: so much that stripped rows behind the wanted ones are longer than these, and that none is short by chance.
func room(others int) api.Int {
	bitsOfEach := bits.Len(uint(others)) + 2 + others/16
	return power(zint.Of(2), 64+(others+1)*bitsOfEach)
}

// factor is the one sought, if the places tell it.
func (s *search) factor() ([]api.Int, bool) {
	z, ok := s.joined()
	for i := 0; !ok && i < len(s.places); i++ {
		s.gather(s.places[i])
		z, ok = s.joined()
	}
	return z, ok
}

// joined is the polynomial of the local factors that surely belong to the factor sought. If it divides the whole, it is that
// factor, as it has no other local ones. The whole's last coefficient is taken in place of its own: what all coefficients
// have in common then is left out, and none of them is greater than that last one times the bound.
func (s *search) joined() ([]api.Int, bool) {
	product := s.whole[len(s.whole)-1:]
	for _, f := range s.with {
		product, _ = hensel.Mul(product, f, s.power)
	}
	near, _ := hensel.Near(product, s.power)
	z := zpoly.Prim(near)
	_, e := zpoly.Div(s.whole, z)
	return z, e == api.OK
}
