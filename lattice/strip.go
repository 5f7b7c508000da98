package lattice

import (
	"cleaver/api"
	"cleaver/zint"
)

// stripped are the numbers of the stripped rows of a basis, raised to integers: parts[i][j], for each j up to i, is the
// Dot of the row i and the stripped row j, times the Gram of the rows ahead of j. So parts[i][i] is the Gram of the rows
// up to i, and m(i, j) is parts[i][j] by parts[j][j].
type stripped struct {
	parts [][]api.Int
}

// strippedOf are those of l; false: it is no basis.
func strippedOf(l [][]api.Int) (*stripped, bool) {
	s := &stripped{}
	if !mayBeBasis(l) {
		return s, false
	}
	for i, row := range l {
		if !s.takeIn(dotsOf(row, l[:i])) {
			return s, false
		}
	}
	return s, true
}

// takeIn takes in the next row, of which these are the Dots; false: it is a sum of those ahead.
func (s *stripped) takeIn(dots []api.Int) bool {
	s.parts = append(s.parts, s.partsOf(dots))
	return zint.Sign(s.gram(len(s.parts))) != 0
}

// partsOf are the parts of one row more, of which these are the Dots.
func (s *stripped) partsOf(dots []api.Int) []api.Int {
	parts := make([]api.Int, len(dots))
	for j, part := range dots {
		other := parts // the last Dot is that of the row itself
		if j < len(s.parts) {
			other = s.parts[j]
		}
		for i := range j { // what both rows have of the stripped row i is left out, and the part raised by one Gram more
			both := zint.Mul(parts[i], other[i])
			part = exact(zint.Sub(zint.Mul(part, s.gram(i+1)), both), s.gram(i))
		}
		parts[j] = part
	}
	return parts
}

// gram is that of the first n rows.
func (s *stripped) gram(n int) api.Int {
	if n == 0 {
		return zint.Of(1)
	}
	return s.parts[n-1][n-1]
}

// areReduced: is each row short, and may it stand where it does?
func (s *stripped) areReduced() bool {
	for i := range s.parts {
		for j := range i {
			if !s.isSmall(i, j) {
				return false
			}
		}
		if !s.mayStand(i) {
			return false
		}
	}
	return true
}

// isSmall: is |m(i, j)| at most 1/2?
func (s *stripped) isSmall(i, j int) bool {
	amount := api.Int{Abs: s.parts[i][j].Abs}
	return zint.Cmp(zint.Add(amount, amount), s.parts[j][j]) <= 0
}

// mayStand: is |s(i)|^2 at least (3/4 - m(i, i - 1)^2) times |s(i - 1)|^2? Nothing stands ahead of the first row.
func (s *stripped) mayStand(i int) bool {
	if i == 0 {
		return true
	}
	part, ahead := s.parts[i][i-1], s.gram(i)
	left := zint.Add(zint.Mul(s.gram(i+1), s.gram(i-1)), zint.Mul(part, part))
	return zint.Cmp(zint.Mul(zint.Of(4), left), zint.Mul(zint.Of(3), zint.Mul(ahead, ahead))) >= 0
}

// timesOf is how many of each row make a vector, of which these are the Dots; false: no integers do. The last row's
// number comes first: the stripped one of that is in no other row.
func (s *stripped) timesOf(dots []api.Int) ([]api.Int, bool) {
	left, n := s.partsOf(dots), len(s.parts)
	if zint.Sign(left[n]) != 0 {
		return nil, false
	}
	times := make([]api.Int, n)
	for j := n - 1; j >= 0; j-- {
		z, e := zint.Exact(left[j], s.parts[j][j])
		if e != api.OK {
			return nil, false
		}
		for i := range j {
			left[i] = lessBy(left[i], s.parts[j][i], z)
		}
		times[j] = z
	}
	return times, true
}
