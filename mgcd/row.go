package mgcd

import "cleaver/modulus"

// row is one coefficient along a course: a sum of numbers times powers of others, one for each term. It tells how few they may be, by the
// shortest recurrence that all of it keeps to (Berlekamp's and Massey's way): the sum of now[i] times the i-th one back is 0.
type row struct {
	seen        []uint64
	now, before dense  // before: what now was when it was last shorter
	count       int    // how many terms
	off         uint64 // by what before was wrong
	since       int    // how many were seen since then
}

func newRows(m *modulus.Modulus, count int) []*row {
	all := make([]*row, count)
	for k := range all {
		all[k] = &row{now: dense{m.One}, before: dense{m.One}, off: m.One}
	}
	return all
}

// see adds the next one.
func (r *row) see(m *modulus.Modulus, x uint64) {
	r.seen = append(r.seen, x)
	r.since++
	wrong := uint64(0)
	for i, c := range r.now {
		wrong = m.Plus(wrong, m.Times(c, r.seen[len(r.seen)-1-i]))
	}
	if wrong == 0 {
		return
	}
	times := m.Times(wrong, m.Inverse(r.off))
	old := r.now
	r.now = make(dense, max(len(old), r.since+len(r.before)))
	copy(r.now, old)
	takeTimes(m, r.now[r.since:], r.before, times)
	if longer := len(r.seen) - r.count; longer > r.count {
		r.before, r.count, r.off, r.since = old, longer, wrong, 0
	}
}

// ratios are what the terms are multiplied by from one to the next; false: there are not as many.
func (r *row) ratios(m *modulus.Modulus, l *modulus.Lot) ([]uint64, bool) {
	f := make(dense, r.count+1) // the recurrence, the other way round
	for i, c := range r.now {
		f[r.count-i] = c
	}
	if r.count > 0 && f[0] == 0 {
		return nil, false
	}
	return roots(m, l, f)
}
