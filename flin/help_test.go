package flin_test

import (
	"fmt"
	"math"
	"math/rand/v2"
	"slices"
	"testing"

	"cleaver/api"
)

// primes are the least ones, some in the midst, and the greatest ones.
func primes() []int { return []int{2, 3, 5, 7, 251, 4093, 46349, 65519, 65521} }

// noPrimes are numbers by which there is no field.
func noPrimes() []int {
	return []int{math.MinInt, -65521, -7, -1, 0, 1, 4, 9, 65520, 65522, 65536, 65537, 1<<31 - 1, 1<<61 - 1, math.MaxInt}
}

// residue is a number's rest, which is not below 0.
func residue(n, p int) int { return (n%p + p) % p }

// What the tests hold answers against: matrices as they are made by hand, one column, one residue at a time.

// copied is a matrix, with memory of its own.
func copied(m [][]int) [][]int {
	var z [][]int
	for _, row := range m {
		z = append(z, slices.Clone(row))
	}
	return z
}

// norm is a matrix, plain.
func norm(m [][]int, p int) [][]int {
	z := copied(m)
	for _, row := range z {
		for i := range row {
			row[i] = residue(row[i], p)
		}
	}
	return z
}

// over is the inverse of a residue: its power to p - 2.
func over(a, p int) int {
	power, square := 1, residue(a, p)
	for n := p - 2; n > 0; n /= 2 {
		if n%2 == 1 {
			power = power * square % p
		}
		square = square * square % p
	}
	return power
}

// byColumns goes column by column: a row that does not have 0 there is swapped up, and taken away from all others.
func byColumns(m [][]int, p int) [][]int {
	z, done := norm(m, p), 0
	for column := 0; done < len(z) && column < len(z[0]); column++ {
		from := done
		for from < len(z) && z[from][column] == 0 {
			from++
		}
		if from == len(z) {
			continue
		}
		z[done], z[from] = z[from], z[done]
		by := over(z[done][column], p)
		for i := range z[done] {
			z[done][i] = z[done][i] * by % p
		}
		for other, row := range z {
			if many := row[column]; other != done {
				for i := range row {
					row[i] = residue(row[i]-many*z[done][i], p)
				}
			}
		}
		done++
	}
	return z[:done]
}

// nullByHand is the basis of n residues, as the document has it, of a matrix by columns.
func nullByHand(m [][]int, n, p int) [][]int {
	rows := byColumns(m, p)
	var basis [][]int
	for column := range n {
		if slices.ContainsFunc(rows, func(row []int) bool { return firstOf(row) == column }) {
			continue
		}
		v := make([]int, n)
		v[column] = 1
		for _, row := range rows {
			v[firstOf(row)] = residue(-row[column], p)
		}
		basis = append(basis, v)
	}
	return basis
}

// firstOf is the place of a row's first residue that is not 0; -1, if there is none.
func firstOf(row []int) int {
	return slices.IndexFunc(row, func(c int) bool { return c != 0 })
}

// applied is what a matrix makes of residues.
func applied(m [][]int, v []int, p int) []int {
	var z []int
	for _, row := range m {
		sum := 0
		for i, c := range row {
			sum = (sum + residue(c, p)*residue(v[i], p)) % p
		}
		z = append(z, sum)
	}
	return z
}

// all are all lists of n residues by p.
func all(n, p int) [][]int {
	lists := [][]int{nil}
	for range n {
		var longer [][]int
		for _, l := range lists {
			for c := range p {
				longer = append(longer, append(slices.Clone(l), c))
			}
		}
		lists = longer
	}
	return lists
}

// allMatrices are all of so many rows and columns by p.
func allMatrices(rows, columns, p int) [][][]int {
	var z [][][]int
	for _, residues := range all(rows*columns, p) {
		m := make([][]int, rows)
		for i := range m {
			m[i] = residues[i*columns : (i+1)*columns]
		}
		z = append(z, m)
	}
	return z
}

// small calls f with all matrices that are small enough.
func small(f func(m [][]int, n, p int)) {
	for _, c := range []struct{ rows, columns, p int }{
		{0, 0, 2}, {0, 3, 2}, {3, 0, 2}, {1, 1, 7}, {1, 3, 3}, {3, 1, 3}, {2, 2, 2}, {2, 2, 3}, {2, 2, 5}, {2, 3, 3}, {3, 2, 3}, {3, 3, 2}, {3, 4, 2}, {4, 3, 2},
	} {
		for _, m := range allMatrices(c.rows, c.columns, c.p) {
			f(m, c.columns, c.p)
		}
	}
}

// maker makes matrices, always the same ones.
type maker struct{ *rand.Rand }

func newMaker(seed uint64) maker { return maker{rand.New(rand.NewPCG(seed, 0))} }

// number is any int, often one at which something turns.
func (m maker) number(p int) int {
	near := []int{0, 0, 0, 1, -1, p, -p, p - 1, 1 - p, p + 1, math.MinInt, math.MaxInt, math.MaxInt / p * p, math.MinInt / p * p}
	if k := m.IntN(3 * len(near)); k < len(near) {
		return near[k]
	}
	if m.IntN(2) == 0 {
		return m.IntN(p)
	}
	return int(m.Uint64())
}

// list is one of n numbers.
func (m maker) list(n, p int) []int {
	z := make([]int, n)
	for i := range z {
		z[i] = m.number(p)
	}
	return z
}

// matrix is one of so many rows and columns; the rows are sums of up to so many others, and some columns have but noughts.
func (m maker) matrix(rows, columns, others, p int) [][]int {
	z, from := make([][]int, rows), make([][]int, others)
	for i := range from {
		from[i] = m.list(columns, p)
	}
	empty := make([]bool, columns)
	for i := range empty {
		empty[i] = m.IntN(6) == 0
	}
	for i := range z {
		z[i] = make([]int, columns)
		for _, other := range from {
			times := m.number(p) % p
			for k := range z[i] {
				if !empty[k] {
					z[i][k] += times * (other[k] % p)
				}
			}
		}
	}
	return z
}

// some calls f with small matrices, and with many of all sizes up to the limit.
func some(f func(m [][]int, n, p int)) {
	small(f)
	m := newMaker(1)
	for _, p := range primes() {
		for _, c := range []struct{ rows, columns, others int }{
			{1, 64, 1}, {64, 1, 1}, {64, 64, 64}, {64, 64, 40}, {64, 63, 1}, {20, 64, 20}, {64, 20, 64}, {5, 9, 3}, {9, 5, 3}, {64, 64, 0},
		} {
			f(m.matrix(c.rows, c.columns, c.others, p), c.columns, p)
		}
		for range 100 {
			columns := m.IntN(9)
			f(m.matrix(m.IntN(9), columns, m.IntN(9), p), columns, p)
		}
		for range 20 {
			columns, rows := m.IntN(9), make([][]int, m.IntN(9))
			for i := range rows {
				rows[i] = m.list(columns, p)
			}
			f(rows, columns, p)
		}
	}
}

// same: are the rows alike? (A list without elements is like each other one.)
func same(a, b [][]int) bool { return slices.EqualFunc(a, b, slices.Equal[[]int]) }

// want fails, unless a call answered that matrix, and no error.
func want(t *testing.T, what asked, a [][]int, e api.Errno, wanted [][]int) {
	t.Helper()
	if e != api.OK || !same(a, wanted) {
		t.Fatalf("%s: %v, %v, not %v", what, a, e, wanted)
	}
}

// wantRow fails, unless a call answered that list, and no error.
func wantRow(t *testing.T, what asked, a []int, e api.Errno, wanted []int) {
	t.Helper()
	if e != api.OK || !slices.Equal(a, wanted) {
		t.Fatalf("%s: %v, %v, not %v", what, a, e, wanted)
	}
}

// refused fails, unless a call answered ErrArg, and nothing beside it.
func refused[T any](t *testing.T, what asked, a []T, e api.Errno) {
	t.Helper()
	if e != api.ErrArg || a != nil {
		t.Errorf("%s: %v, %v", what, a, e)
	}
}

// asked is a call, and what was handed to it. It is told only when a test fails: long matrices take their time.
type asked struct {
	name   string
	p      int
	handed []any
}

func said(name string, p int, handed ...any) asked { return asked{name, p, handed} }

func (a asked) String() string { return fmt.Sprintf("%s%v by %d", a.name, a.handed, a.p) }
