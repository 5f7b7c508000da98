package zgcd

import (
	"math/bits"

	"cleaver/api"
	"cleaver/zint"
	"cleaver/zpoly"
)

// rows are the last two rows of a remainder sequence: last, which is the one ahead, and next, which is no longer.
// But for signs and levels, both are subresultants of the first two. So what all coefficients of a rest have in common
// for sure need not be sought: lead and level tell it.
type rows struct {
	last, next []api.Int
	lead       api.Int // last's last coefficient, but 1 for the first row
	level      api.Int // what lead would be, had the rows so far left out no degree
	turned     bool    // the exchanges so far turn the resultant's sign
}

// lastRows are the last two rows that begin with what two polynomials are without their contents:
// next is constant, or nought.
func lastRows(a, b []api.Int) *rows {
	r := &rows{last: zpoly.Prim(a), next: zpoly.Prim(b), lead: zint.Of(1), level: zint.Of(1)}
	if len(r.last) < len(r.next) {
		r.exchange()
	}
	goOn(r.step)
	return r
}

// goOn takes one step after another, as long as there is one to take.
func goOn(step func() bool) {
	for step() {
	}
}

// step takes the rows on by one; false: there is none behind next.
func (r *rows) step() bool {
	if len(r.next) <= 1 {
		return false
	}
	down := len(r.last) - len(r.next)
	r.exchange()
	_, rest := divided(r.next, r.last)
	common := zint.Mul(r.lead, power(r.level, down))
	r.next, _ = zpoly.Div(rest, []api.Int{common})
	r.lead = last(r.last)
	r.level = levelBelow(r.level, r.lead, down)
	return true
}

// exchange lets last and next change places. It takes the product of both degrees swaps of rows to make the one's
// determinant the other's.
func (r *rows) exchange() {
	bothOdd := len(r.last)%2 == 0 && len(r.next)%2 == 0
	r.turned = r.turned != bothOdd
	r.last, r.next = r.next, r.last
}

// common is the greatest common divisor of the first two rows, when these are the last ones.
func (r *rows) common() []api.Int {
	if len(r.next) == 0 {
		return zpoly.Prim(r.last)
	}
	return zpoly.Of(1)
}

// resultant is that of the first two rows, when these are the last ones: the level of degree 0.
func (r *rows) resultant() api.Int {
	level := levelBelow(r.level, coefficient(r.next, 0), len(r.last)-1)
	if r.turned {
		return zint.Neg(level)
	}
	return level
}

// levelBelow is the level of a row that is so many degrees lower than one of that level, and has that last coefficient.
func levelBelow(level, lead api.Int, down int) api.Int {
	below, _ := zint.Exact(zint.Mul(level, power(lead, down)), power(level, down)) // it goes without a rest
	return below
}

// power is a number times itself, n times. It may have more bits than zint.Pow allows.
func power(a api.Int, n int) api.Int {
	z := zint.Of(1)
	for i := bits.Len(uint(n)) - 1; i >= 0; i-- {
		z = zint.Mul(z, z)
		if n>>i&1 == 1 {
			z = zint.Mul(z, a)
		}
	}
	return z
}
