package short

import (
	"iter"
	"slices"

	"cleaver/api"
	"cleaver/hensel"
	"cleaver/lattice"
	"cleaver/prime"
	"cleaver/zint"
	"cleaver/zpoly"
)

// gather moves those of the others to the factor sought that belong to no other factor, as far as a place tells it.
//
// The value of a factor g is the whole by g, times g's derivative, at the place. By the power it is the sum of the shares of
// all local factors that belong to g. So the lattice of the rows has a short vector for each factor but the one sought: the
// sum of the rows of its local factors, less the first row some times, as a value is not great. All such vectors are made of
// the rows that are kept: a local factor of which none of these has anything belongs to none of those factors.
func (s *search) gather(place api.Int) {
	n := len(s.others)
	rows := kept(reduced(s.rows(place)), zint.Of(n*(n+1)))
	var left [][]api.Int
	for i, f := range s.others {
		hasSome := func(row []api.Int) bool { return zint.Sign(row[i+1]) != 0 }
		if slices.ContainsFunc(rows, hasSome) {
			left = append(left, f)
		} else {
			s.with = append(s.with, f)
		}
	}
	s.others = left
}

// rows tells those of a lattice: the first one is for the power, the others for one local factor each. At their first place
// stands the power, or the share, but only its upper bits, by a scale that no value is greater than: so each row is off by
// less than 1 there. A wanted sum has the first row no more often than all others together, so at that place it is at most
// as great as there are others.
func (s *search) rows(place api.Int) iter.Seq[[]api.Int] {
	return func(yield func(row []api.Int) bool) {
		n := len(s.others)
		scale := quotient(s.power, room(n))
		row := make([]api.Int, n+1)
		row[0] = quotient(s.power, scale)
		if !yield(row) {
			return
		}
		for i, f := range s.others {
			row := make([]api.Int, n+1)
			row[0], row[i+1] = quotient(s.share(f, place), scale), zint.Of(1)
			if !yield(row) {
				return
			}
		}
	}
}

// share is the whole by a local factor, times that one's derivative, at a place, by the power.
func (s *search) share(f []api.Int, place api.Int) api.Int {
	rest, _, _ := hensel.Div(s.whole, f, s.power)
	value := zint.Mul(zpoly.Eval(rest, place), zpoly.Eval(zpoly.Deriv(f), place))
	share, _ := prime.Rest(value, s.power)
	return share
}

// reduced is a reduced basis of the lattice whose rows are told.
func reduced(rows iter.Seq[[]api.Int]) [][]api.Int {
	var basis [][]api.Int
	for row := range rows {
		basis = append(basis, row)
	}
	basis, _ = lattice.Reduce(basis)
	return basis
}

// kept are the rows of a basis up to the last one whose stripped row has a square of at most that: a vector that has
// something of a row behind them is at least as long as that one's stripped row, or one's behind that.
func kept(rows [][]api.Int, square api.Int) [][]api.Int {
	gram, _ := lattice.Gram(rows)
	for len(rows) > 0 {
		fewer := rows[:len(rows)-1]
		below, _ := lattice.Gram(fewer)
		if zint.Cmp(gram, zint.Mul(square, below)) <= 0 {
			break
		}
		rows, gram = fewer, below
	}
	return rows
}
