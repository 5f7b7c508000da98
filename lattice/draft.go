package lattice

import (
	"cleaver/api"
	"cleaver/zint"
)

// What a draft goes by: how great a share may be, a little above 1/2, and how much of the length of the row ahead a row
// has there at least, a little above 3/4. The little is for what heads are off by.
var (
	mostShare = head{amount: 1<<63 + 1<<54, low: -limbBits}
	leastPart = head{amount: 3<<62 + 1<<58, low: -limbBits}
)

// draft is a basis that is brought near to a reduced one, by the heads of its stripped rows' numbers: so no step takes
// long, however long those numbers are. The rows themselves and their Dots are told in full, so the lattice stays the
// same, wherever heads that are off may lead.
type draft struct {
	rows    []*draftRow
	known   int    // the Dots of so many rows, from the first one on, are known
	lengths []head // |s(i)|^2
}

// draftRow is a row, and what is told of it.
type draftRow struct {
	id      int // its place at first
	numbers []api.Int
	dots    []api.Int // of it and each row, by that one's id
	parts   []head    // Dots of it and each stripped row ahead
	shares  []head    // m of it and each row ahead
}

// drafted are rows of the same lattice as those of l, in new memory, and nearly reduced, if l is a basis.
func drafted(l [][]api.Int) [][]api.Int {
	d := draftOf(l)
	d.goOn(d.mostMoves())
	return d.numbers()
}

// draftOf is one that has yet to be begun with.
func draftOf(l [][]api.Int) *draft {
	d := &draft{lengths: make([]head, len(l))}
	for i, numbers := range l {
		d.rows = append(d.rows, &draftRow{id: i, numbers: plain(numbers), dots: make([]api.Int, len(l))})
	}
	return d
}

// numbers are those of its rows.
func (d *draft) numbers() [][]api.Int {
	rows := make([][]api.Int, len(d.rows))
	for i, row := range d.rows {
		rows[i] = row.numbers
	}
	return rows
}

// goOn shortens row after row, and moves each one as far ahead as it belongs. It is broken off where nothing is left of
// a row, and where rows have been moved ahead by more places than are left.
func (d *draft) goOn(left int) {
	for k := 0; k < len(d.rows) && left >= 0; {
		lengths := d.settle(k)
		place := d.placeOf(k, lengths)
		d.move(k, place)
		if !lengths[place].isAboveNought() {
			return
		}
		d.lengths[place] = lengths[place]
		left -= k - place
		k = place + 1
	}
}

// mostMoves is by how many places rows may be moved ahead in all, if heads are right. The Grams of the first one, two,
// three rows and so on have a product that is at first below 2 to the power of all bits told here, is never below 1, and
// is made less by a fifth at least with each place.
func (d *draft) mostMoves() int {
	bits := 0
	for i, row := range d.rows {
		bits += (len(d.rows) - i) * bitsOf(dot(row.numbers, row.numbers))
	}
	return 4 * bits
}

// settle shortens a row, again and again, as heads tell but the ends of how often others are to be taken away. It answers
// the row's length less what it has of the first stripped rows: of none, of one, and so on up to all those ahead.
func (d *draft) settle(k int) []head {
	d.know(k)
	row := d.rows[k]
	for again := 2 + bitsOf(row.dots[row.id])/16; again > 0; again-- {
		d.strip(k)
		if !d.shorten(k) {
			break
		}
	}
	lengths := []head{headOf(row.dots[row.id])}
	for j, share := range row.shares {
		lengths = append(lengths, lengths[j].minus(share.times(row.parts[j])))
	}
	return lengths
}

// know makes the Dots of a row that is come to for the first time.
func (d *draft) know(k int) {
	if k < d.known {
		return
	}
	d.known = k + 1
	for _, other := range d.rows[:d.known] {
		d.rows[k].setDot(other, dot(d.rows[k].numbers, other.numbers))
	}
}

func (r *draftRow) setDot(other *draftRow, dot api.Int) {
	r.dots[other.id], other.dots[r.id] = dot, dot
}

// strip tells what a row has of the stripped rows ahead.
func (d *draft) strip(k int) {
	row := d.rows[k]
	row.parts, row.shares = nil, nil
	for j, ahead := range d.rows[:k] {
		part := headOf(row.dots[ahead.id])
		for i, share := range ahead.shares {
			part = part.minus(share.times(row.parts[i]))
		}
		row.parts = append(row.parts, part)
		row.shares = append(row.shares, part.by(d.lengths[j]))
	}
}

// shorten takes those ahead away from a row, the last one first, of which it has too great a share; false: it has none.
func (d *draft) shorten(k int) bool {
	row, taken := d.rows[k], false
	for j := k - 1; j >= 0; j-- {
		share := row.shares[j]
		if !mostShare.isBelow(share.amountAlone()) {
			continue
		}
		taken = true
		times := share.nearest()
		for i, other := range d.rows[j].shares {
			row.shares[i] = row.shares[i].minus(other.times(headOf(times)))
		}
		d.takeAway(row, d.rows[j], times)
	}
	return taken
}

// takeAway takes another row so many times away from a row, and from its Dots what that makes of them.
func (d *draft) takeAway(row, other *draftRow, times api.Int) {
	row.numbers = less(row.numbers, other.numbers, times)
	before := row.dots[other.id]
	for _, third := range d.rows[:d.known] {
		if third != row {
			row.setDot(third, lessBy(row.dots[third.id], other.dots[third.id], times))
		}
	}
	both := zint.Add(before, row.dots[other.id])
	row.setDot(row, lessBy(row.dots[row.id], both, times))
}

// placeOf is how far ahead a row belongs: as far as it is shorter there than the one that stands there.
func (d *draft) placeOf(k int, lengths []head) int {
	for k > 0 && lengths[k-1].isBelow(leastPart.times(d.lengths[k-1])) {
		k--
	}
	return k
}

// move puts a row ahead of those from a place on.
func (d *draft) move(k, place int) {
	row := d.rows[k]
	copy(d.rows[place+1:k+1], d.rows[place:k])
	d.rows[place] = row
	row.parts, row.shares = row.parts[:place], row.shares[:place]
}
