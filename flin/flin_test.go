package flin_test

import (
	"math"
	"slices"
	"testing"

	"cleaver/api"
	"cleaver/flin"
)

// P7.1

func TestEchelonOfSome(t *testing.T) {
	for _, c := range []struct {
		m    [][]int
		p    int
		rows [][]int
	}{
		{[][]int{{1, 2}, {2, 4}, {0, 3}}, 5, [][]int{{1, 0}, {0, 1}}},
		{nil, 5, nil}, {[][]int{}, 5, nil}, {[][]int{nil}, 5, nil}, {[][]int{nil, {}, nil}, 5, nil},
		{[][]int{{0, 0}, {5, -10}}, 5, nil}, {[][]int{{3}}, 5, [][]int{{1}}}, {[][]int{{0}, {-1}, {2}}, 5, [][]int{{1}}},
		{[][]int{{0, 0, 3, 1}}, 5, [][]int{{0, 0, 1, 2}}},
		{[][]int{{0, 0, 1}, {0, 1, 0}, {1, 0, 0}}, 5, [][]int{{1, 0, 0}, {0, 1, 0}, {0, 0, 1}}},
		{[][]int{{1, 2, 3}, {0, 1, 4}, {0, 0, 2}}, 5, [][]int{{1, 0, 0}, {0, 1, 0}, {0, 0, 1}}},
		{[][]int{{0, 2, 4, 1}, {3, 1, 2, 1}}, 5, [][]int{{1, 0, 0, 1}, {0, 1, 2, 3}}},
		{[][]int{{1, 1, 0}, {0, 1, 1}, {1, 0, 1}}, 2, [][]int{{1, 0, 1}, {0, 1, 1}}},
		{[][]int{{1, 1, 0}, {0, 1, 1}, {1, 0, 1}}, 3, [][]int{{1, 0, 0}, {0, 1, 0}, {0, 0, 1}}},
		{[][]int{{math.MinInt, math.MaxInt}}, 7, [][]int{{1, 0}}}, {[][]int{{math.MaxInt, math.MinInt}}, 7, [][]int{{0, 1}}},
		{[][]int{{65520, 1}, {1, 65521}}, 65521, [][]int{{1, 0}, {0, 1}}},
	} {
		rows, e := flin.Echelon(c.m, c.p)
		want(t, said("Echelon", c.p, c.m), rows, e, c.rows)
	}
}

func TestEchelon(t *testing.T) {
	some(func(m [][]int, _, p int) {
		rows, e := flin.Echelon(m, p)
		want(t, said("Echelon", p, m), rows, e, byColumns(m, p))
	})
}

// wantForm fails, unless each row's first residue is 1, farther right than the one ahead, and alone in its column.
func wantForm(t *testing.T, rows [][]int, n, p int) {
	t.Helper()
	ahead := -1
	for i, row := range rows {
		first := firstOf(row)
		if len(row) != n || first <= ahead || row[first] != 1 || !same(norm([][]int{row}, p), [][]int{row}) {
			t.Fatalf("row %d by %d: %v", i, p, rows)
		}
		for k, other := range rows {
			if k != i && other[first] != 0 {
				t.Fatalf("column %d by %d: %v", first, p, rows)
			}
		}
		ahead = first
	}
}

func TestEchelonsForm(t *testing.T) {
	some(func(m [][]int, n, p int) {
		rows, e := flin.Echelon(m, p)
		if e != api.OK {
			t.Fatalf("%s: %v", said("Echelon", p, m), e)
		}
		wantForm(t, rows, n, p)
	})
}

// spanned are all sums of rows, each taken so many times, in one order.
func spanned(m [][]int, n, p int) [][]int {
	var sums [][]int
	for _, times := range all(len(m), p) {
		sum := make([]int, n)
		for i, row := range m {
			for k := range sum {
				sum[k] = residue(sum[k]+times[i]*residue(row[k], p), p)
			}
		}
		sums = append(sums, sum)
	}
	slices.SortFunc(sums, slices.Compare[[]int])
	return slices.CompactFunc(sums, slices.Equal[[]int])
}

func TestEchelonSpansTheSame(t *testing.T) {
	small(func(m [][]int, n, p int) {
		rows, _ := flin.Echelon(m, p)
		if !same(spanned(rows, n, p), spanned(m, n, p)) {
			t.Fatalf("%s: %v", said("Echelon", p, m), rows)
		}
	})
}

// There is but one such matrix for what is spanned: it is the same, however the rows are put, added or multiplied.
func TestEchelonIsOne(t *testing.T) {
	r := newMaker(2)
	some(func(m [][]int, n, p int) {
		wanted, _ := flin.Echelon(m, p)
		other := norm(m, p)
		r.Shuffle(len(other), func(i, k int) { other[i], other[k] = other[k], other[i] })
		for i := range other {
			by, times := 1+r.IntN(p-1), r.IntN(p)
			for k := range n {
				other[i][k] *= by
				if i > 0 {
					other[i][k] = residue(other[i][k]+times*other[i-1][k], p)
				}
			}
		}
		rows, e := flin.Echelon(other, p)
		want(t, said("Echelon", p, other), rows, e, wanted)
	})
}

// P7.2

func TestNullOfSome(t *testing.T) {
	for _, c := range []struct {
		m     [][]int
		n, p  int
		basis [][]int
	}{
		{[][]int{{1, 2, 3}}, 3, 5, [][]int{{3, 1, 0}, {2, 0, 1}}},
		{nil, 0, 5, nil}, {nil, 3, 5, [][]int{{1, 0, 0}, {0, 1, 0}, {0, 0, 1}}}, {[][]int{nil, {}}, 0, 5, nil},
		{[][]int{{0, 5}, {-5, 0}}, 2, 5, [][]int{{1, 0}, {0, 1}}}, {[][]int{{1, 2}, {0, 3}}, 2, 5, nil},
		{[][]int{{2, 4}, {-2, 1}}, 2, 5, [][]int{{3, 1}}},
		{[][]int{{0, 0, 3, 1}}, 4, 5, [][]int{{1, 0, 0, 0}, {0, 1, 0, 0}, {0, 0, 3, 1}}},
		{[][]int{{0, 2, 4, 1}, {3, 1, 2, 1}}, 4, 5, [][]int{{0, 3, 1, 0}, {4, 2, 0, 1}}},
		{[][]int{{1, 1, 0}, {0, 1, 1}, {1, 0, 1}}, 3, 2, [][]int{{1, 1, 1}}},
		{[][]int{{math.MinInt, math.MaxInt}}, 2, 7, [][]int{{0, 1}}},
	} {
		basis, e := flin.Null(c.m, c.n, c.p)
		want(t, said("Null", c.p, c.m, c.n), basis, e, c.basis)
	}
}

func TestNull(t *testing.T) {
	some(func(m [][]int, n, p int) {
		basis, e := flin.Null(m, n, p)
		want(t, said("Null", p, m, n), basis, e, nullByHand(m, n, p))
	})
}

// It is a basis of all lists that the matrix makes nought, of no more, and of no fewer.
func TestNullAmongAll(t *testing.T) {
	small(func(m [][]int, n, p int) {
		var wanted [][]int
		for _, v := range all(n, p) {
			if firstOf(applied(m, v, p)) < 0 {
				wanted = append(wanted, v)
			}
		}
		basis, _ := flin.Null(m, n, p)
		many := 1
		for range basis {
			many *= p
		}
		if many != len(wanted) || !same(spanned(basis, n, p), wanted) {
			t.Fatalf("%s: %v, not a basis of %v", said("Null", p, m, n), basis, wanted)
		}
	})
}

// Without rows, all lists of n residues are made nought, for each n that may be.
func TestNullWithoutRows(t *testing.T) {
	for _, p := range primes() {
		for n := range api.MaxRows + 1 {
			wanted := make([][]int, n)
			for i := range wanted {
				wanted[i] = make([]int, n)
				wanted[i][i] = 1
			}
			basis, e := flin.Null(nil, n, p)
			want(t, said("Null", p, n), basis, e, wanted)
		}
	}
}

func TestNullOfWrongColumns(t *testing.T) {
	for _, n := range []int{math.MinInt, -64, -1, 65, 66, 128, math.MaxInt} {
		for _, m := range [][][]int{nil, {}, {nil}, {{1}}, {{1, 2}, {3, 4}}, {make([]int, 64)}} {
			basis, e := flin.Null(m, n, 5)
			refused(t, said("Null", 5, m, n), basis, e)
		}
	}
	for n := range api.MaxRows + 1 {
		for _, columns := range []int{0, 1, 2, 63, 64} {
			m := [][]int{make([]int, columns), make([]int, columns)}
			basis, e := flin.Null(m, n, 5)
			if n != columns {
				refused(t, said("Null", 5, m, n), basis, e)
			} else if len(basis) != n || e != api.OK {
				t.Errorf("%s: %v, %v", said("Null", 5, m, n), basis, e)
			}
		}
	}
}

// P7.3

func TestApplyOfSome(t *testing.T) {
	for _, c := range []struct {
		m    [][]int
		v    []int
		p    int
		sums []int
	}{
		{[][]int{{1, 2, 3}, {0, 1, 1}}, []int{3, 1, 0}, 5, []int{0, 1}}, {[][]int{{1}}, []int{-1}, 5, []int{4}},
		{nil, nil, 5, nil}, {nil, []int{1, 2}, 5, nil}, {[][]int{}, make([]int, 1000), 5, nil}, {[][]int{nil, {}, nil}, nil, 5, []int{0, 0, 0}},
		{[][]int{{math.MinInt, math.MaxInt}}, []int{1, 1}, 7, []int{6}}, {[][]int{{1, 0}, {0, 1}}, []int{math.MinInt, math.MaxInt}, 7, []int{6, 0}},
		{[][]int{{math.MaxInt, math.MaxInt}}, []int{math.MaxInt, math.MinInt}, 11, []int{4}},
	} {
		sums, e := flin.Apply(c.m, c.v, c.p)
		wantRow(t, said("Apply", c.p, c.m, c.v), sums, e, c.sums)
	}
}

func TestApply(t *testing.T) {
	r := newMaker(3)
	some(func(m [][]int, n, p int) {
		v := r.list(n, p)
		sums, e := flin.Apply(m, v, p)
		wantRow(t, said("Apply", p, m, v), sums, e, applied(m, v, p))
	})
}

// All residues are -1, so each sum is how many columns there are; without rests on the way it is as great as may be.
func TestApplyOfGreatest(t *testing.T) {
	for _, p := range primes() {
		v := slices.Repeat([]int{p - 1}, api.MaxRows)
		sums, e := flin.Apply(slices.Repeat([][]int{v}, api.MaxRows), v, p)
		wantRow(t, said("Apply", p, v), sums, e, slices.Repeat([]int{api.MaxRows % p}, api.MaxRows))
	}
}

func TestApplyToWrongLength(t *testing.T) {
	for _, c := range []struct{ columns, residues int }{{0, 1}, {1, 0}, {1, 2}, {2, 1}, {3, 64}, {64, 63}, {64, 65}, {64, 0}} {
		m, v := [][]int{make([]int, c.columns), make([]int, c.columns)}, make([]int, c.residues)
		sums, e := flin.Apply(m, v, 5)
		refused(t, said("Apply", 5, m, v), sums, e)
	}
}

// What is no matrix, and what is no prime, all calls refuse.

// wantAllRefused fails, unless all calls refuse the matrix, whatever is right or wrong beside it.
func wantAllRefused(t *testing.T, m [][]int, p int) {
	t.Helper()
	rows, e := flin.Echelon(m, p)
	refused(t, said("Echelon", p, m), rows, e)
	lengths := []int{0, 1, 2, 64, 65}
	for _, row := range m {
		lengths = append(lengths, len(row))
	}
	for _, n := range lengths {
		basis, e := flin.Null(m, n, p)
		refused(t, said("Null", p, m, n), basis, e)
		sums, e := flin.Apply(m, make([]int, n), p)
		refused(t, said("Apply", p, m, n), sums, e)
	}
}

// sized is a matrix of noughts.
func sized(rows, columns int) [][]int {
	m := make([][]int, rows)
	for i := range m {
		m[i] = make([]int, columns)
	}
	return m
}

func TestNoMatrix(t *testing.T) {
	for _, p := range append(primes(), noPrimes()...) {
		for _, m := range [][][]int{
			{{1}, nil}, {nil, {1}}, {{1, 2}, {1}}, {{1}, {1, 2}}, {{1, 2}, {1, 2}, {1, 2, 3}}, {{1, 2}, {1, 2, 3}, {1, 2}},
			sized(65, 0), sized(65, 1), sized(1, 65), sized(65, 64), sized(64, 65), sized(65, 65), sized(1000, 2), sized(2, 1000),
			append(sized(63, 64), make([]int, 63)),
		} {
			wantAllRefused(t, m, p)
		}
	}
}

func TestNoField(t *testing.T) {
	for _, p := range noPrimes() {
		for _, m := range [][][]int{nil, {}, {nil}, {{0}}, {{1, 2}, {3, 4}}, sized(64, 64)} {
			wantAllRefused(t, m, p)
		}
	}
}

// Matrices of all sizes up to the limit are taken.
func TestAllSizes(t *testing.T) {
	for rows := range api.MaxRows + 1 {
		for columns := range api.MaxRows + 1 {
			m, v := sized(rows, columns), make([]int, columns)
			if rows > 0 && columns > 0 {
				m[rows-1][columns-1], v[columns-1] = -1, 3
			}
			wanted := min(rows, columns, 1)
			if z, e := flin.Echelon(m, 7); e != api.OK || len(z) != wanted {
				t.Errorf("%d, %d: %v, %v", rows, columns, z, e)
			}
			if z, e := flin.Null(m, columns, 7); e != api.OK || len(z) != columns-wanted {
				t.Errorf("%d, %d: %v, %v", rows, columns, z, e)
			}
			if z, e := flin.Apply(m, v, 7); e != api.OK || len(z) != rows || wanted == 1 && z[rows-1] != 4 {
				t.Errorf("%d, %d: %v, %v", rows, columns, z, e)
			}
		}
	}
}
