package lattice

import (
	"math/rand/v2"
	"slices"
	"testing"

	"cleaver/api"
	"cleaver/zint"
)

// P14.3: a draft and a reduction are asked for apart here, as each of them hides what the other one does.

type source struct{ *rand.Rand }

func newSource(seed uint64) source { return source{rand.New(rand.NewPCG(seed, 7))} }

// number is one of up to so many bits, of any sign.
func (s source) number(bits int) api.Int {
	a := api.Int{Neg: s.IntN(2) == 1, Abs: make([]uint64, (bits+63)/64)}
	for i := range a.Abs {
		a.Abs[i] = s.Uint64()
	}
	if len(a.Abs) > 0 {
		a.Abs[len(a.Abs)-1] >>= (64 - bits%64) % 64
	}
	return zint.Norm(a)
}

// rows are n rows of so many numbers.
func (s source) rows(n, columns, bits int) [][]api.Int {
	l := make([][]api.Int, n)
	for i := range l {
		for range columns {
			l[i] = append(l[i], s.number(bits))
		}
	}
	return l
}

// hidden are the unit matrix's rows with a great number in each.
func (s source) hidden(n, bits int) [][]api.Int {
	l := make([][]api.Int, n)
	for i := range l {
		l[i] = make([]api.Int, n)
		l[i][i] = zint.Of(1)
		l[i][0] = s.number(bits)
	}
	l[0][0] = zint.Add(l[0][0], zint.Of(1<<20)) // not nought
	return l
}

// steps have stripped rows each of which is by as much shorter than the one ahead as may be, and are mixed.
func (s source) steps(n int) [][]api.Int {
	l, length := make([][]api.Int, n), 1<<40
	for i := range l {
		l[i] = make([]api.Int, n)
	}
	for i := range l {
		for _, row := range l[i:] {
			row[i] = zint.Of(length / 2 * (2*s.IntN(2) - 1))
		}
		l[i][i] = zint.Of(length)
		length = length / 10000 * 8661
	}
	for range 2 * n {
		if i, k := s.IntN(n), s.IntN(n); i != k {
			l[i] = less(l[i], l[k], s.number(20))
		}
	}
	return l
}

// someBases calls f with bases that are far from reduced, with some that are reduced, and with short ones.
func someBases(f func(l [][]api.Int)) {
	s := newSource(1)
	f(nil)
	for n := 1; n <= 12; n++ {
		for range 4 {
			f(s.hidden(n, 1+s.IntN(20*n)))
			f(s.rows(n, n+2, 1+s.IntN(60)))
			f(s.steps(n))
		}
	}
	f(s.hidden(2, 3000))
	f(s.hidden(20, 300))
	f(s.steps(30))
}

// wantSame fails, unless both are bases of the same lattice.
func wantSame(t *testing.T, l, other [][]api.Int) {
	t.Helper()
	before, e := Gram(l)
	after, other2 := Gram(other)
	if e != api.OK || other2 != api.OK || len(l) != len(other) || zint.Cmp(before, after) != 0 {
		t.Fatal(e, other2, len(l), len(other))
	}
	for _, row := range other {
		if _, e := In(l, row); e != api.OK {
			t.Fatal(e)
		}
	}
}

func plainRows(l [][]api.Int) [][]api.Int {
	z := make([][]api.Int, len(l))
	for i, row := range l {
		z[i] = plain(row)
	}
	return z
}

// A reduction needs no draft; and the numbers of the stripped rows are those of its rows, wherever it has got to.
func TestReductionAlone(t *testing.T) {
	someBases(func(l [][]api.Int) {
		r := reduction{rows: plainRows(l)}
		if !r.goOn() {
			t.Fatal(l)
		}
		wantSame(t, l, r.rows)
		wantParts(t, r)
		if reduced, e := Reduced(r.rows); !reduced || e != api.OK {
			t.Fatal(reduced, e)
		}
	})
}

// wantParts fails, unless the numbers of the stripped rows are what is told of the rows anew.
func wantParts(t *testing.T, r reduction) {
	t.Helper()
	s, ok := strippedOf(r.rows)
	for i, parts := range s.parts {
		if !slices.EqualFunc(parts, r.parts[i], func(a, b api.Int) bool { return zint.Cmp(a, b) == 0 }) {
			t.Fatalf("parts %d: %v, not %v", i, r.parts[i], parts)
		}
	}
	if !ok || len(s.parts) != len(r.parts) {
		t.Fatal(ok, len(r.parts))
	}
}

// Rows may change places where later ones are known already.
func TestExchangeAhead(t *testing.T) {
	s := newSource(2)
	for range 50 {
		n := 2 + s.IntN(5)
		r := reduction{rows: s.rows(n, n, 30)}
		for k := range n {
			r.takeIn(dotsOf(r.rows[k], r.rows[:k]))
		}
		for range 10 {
			r.exchange(1 + s.IntN(n-1))
			r.shorten(s.IntN(n))
			wantParts(t, r)
		}
	}
}

// A row that is short stays as it is: a reduced basis is what its reduction tells.
func TestReductionOfReduced(t *testing.T) {
	someBases(func(l [][]api.Int) {
		z, _ := Reduce(l)
		r := reduction{rows: plainRows(z)}
		if !r.goOn() {
			t.Fatal(z)
		}
		for i, row := range r.rows {
			if !slices.EqualFunc(row, z[i], func(a, b api.Int) bool { return zint.Cmp(a, b) == 0 }) {
				t.Fatalf("row %d: %v, not %v", i, row, z[i])
			}
		}
	})
}

// isNearlyReduced is P14.2 with little to spare: all shares at most 0.51, and 0.74 in place of 3/4.
func isNearlyReduced(l [][]api.Int) bool {
	s, _ := strippedOf(l)
	hundred := func(a api.Int) api.Int { return zint.Mul(zint.Of(100), a) }
	for i := range l {
		for j := range i {
			amount := api.Int{Abs: s.parts[i][j].Abs}
			if zint.Cmp(hundred(amount), zint.Mul(zint.Of(51), s.parts[j][j])) > 0 {
				return false
			}
		}
		if i > 0 {
			part, ahead := s.parts[i][i-1], s.gram(i)
			left := zint.Add(zint.Mul(s.gram(i+1), s.gram(i-1)), zint.Mul(part, part))
			if zint.Cmp(hundred(left), zint.Mul(zint.Of(74), zint.Mul(ahead, ahead))) < 0 {
				return false
			}
		}
	}
	return true
}

// A draft goes all the way but for a little: nothing has broken it off.
func TestDraft(t *testing.T) {
	someBases(func(l [][]api.Int) {
		z := drafted(l)
		wantSame(t, l, z)
		if !isNearlyReduced(z) {
			t.Fatal(l, z)
		}
	})
}

// Of rows that are no basis nothing is left of one: it comes first, so the reduction need go no farther.
func TestDraftOfSums(t *testing.T) {
	s := newSource(3)
	for n := 1; n < 12; n++ {
		for at := range n {
			l := s.hidden(n, 1+s.IntN(200))
			sum := make([]api.Int, n)
			for i, row := range l {
				if i != at {
					sum = less(sum, row, s.number(70))
				}
			}
			l[at] = sum
			if z := drafted(l); zint.Sign(dot(z[0], z[0])) != 0 {
				t.Fatal(l, z)
			}
		}
	}
}

// wantReducible fails, unless the rows of a draft are of the same lattice, and go on to be reduced.
func wantReducible(t *testing.T, l [][]api.Int, d *draft) {
	t.Helper()
	r := reduction{rows: d.numbers()}
	if !r.goOn() {
		t.Fatal(l)
	}
	wantSame(t, l, r.rows)
}

// A draft is broken off when no places are left to move rows by: so does one end that would go on for ever.
func TestDraftBrokenOff(t *testing.T) {
	s := newSource(4)
	for left := -1; left < 40; left++ {
		l := s.hidden(2, 500) // takes some 200 moves
		d := draftOf(l)
		d.goOn(left)
		if isNearlyReduced(d.numbers()) {
			t.Fatal(left, l)
		}
		wantReducible(t, l, d)
		d = draftOf(l)
		if d.goOn(300 + left); !isNearlyReduced(d.numbers()) || d.mostMoves() < 300 {
			t.Fatal(left, l)
		}
	}
}

// It comes to an end though its Dots be wrong; its rows are of the same lattice all the same.
func TestDraftLedAstray(t *testing.T) {
	s := newSource(5)
	for range 200 {
		n := 2 + s.IntN(6)
		l := s.hidden(n, 100)
		d := draftOf(l)
		d.known = n
		for _, row := range d.rows {
			for i := range row.dots {
				row.dots[i] = s.number(s.IntN(120)) // none of these is a Dot
			}
			row.dots[row.id].Neg = s.IntN(20) == 0
		}
		d.goOn(d.mostMoves())
		wantReducible(t, l, d)
	}
}
