package lattice

import (
	"cleaver/api"
	"cleaver/zint"
)

// reduction is a basis that is being reduced, with the numbers of its stripped rows as far as it has been come to.
type reduction struct {
	stripped
	rows [][]api.Int
}

// goOn goes from row to row, and back by one where two change places, till all are reduced; false: they are no basis.
func (r *reduction) goOn() bool {
	for k := 0; k < len(r.rows); {
		if k == len(r.parts) && !r.takeIn(dotsOf(r.rows[k], r.rows[:k])) {
			return false
		}
		r.shorten(k)
		if r.mayStand(k) {
			k++
		} else {
			r.exchange(k)
			k--
		}
	}
	return true
}

// shorten takes those ahead away from a row, the last one first, till it is short.
func (r *reduction) shorten(k int) {
	for j := k - 1; j >= 0; j-- {
		if r.isSmall(k, j) {
			continue
		}
		times := nearest(r.parts[k][j], r.parts[j][j])
		r.rows[k] = less(r.rows[k], r.rows[j], times)
		for i, part := range r.parts[j] {
			r.parts[k][i] = lessBy(r.parts[k][i], part, times)
		}
	}
}

// exchange lets a row and the one ahead change places. Of the Grams but that of the rows up to the one ahead is another
// one then. A later row's two parts are turned so that they still are of the same vector.
func (r *reduction) exchange(k int) {
	r.rows[k], r.rows[k-1] = r.rows[k-1], r.rows[k]
	here, ahead := r.parts[k], r.parts[k-1]
	for j := range k - 1 {
		here[j], ahead[j] = ahead[j], here[j]
	}
	part, before, whole := here[k-1], ahead[k-1], here[k]
	now := exact(zint.Add(zint.Mul(r.gram(k-1), whole), zint.Mul(part, part)), before)
	for _, later := range r.parts[k+1:] {
		last := exact(zint.Sub(zint.Mul(whole, later[k-1]), zint.Mul(part, later[k])), before)
		later[k-1] = exact(zint.Add(zint.Mul(now, later[k]), zint.Mul(part, last)), whole)
		later[k] = last
	}
	ahead[k-1] = now
}
