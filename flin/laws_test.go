package flin_test

import (
	"slices"
	"testing"

	"cleaver/api"
	"cleaver/flin"
)

// P7.4: what follows, told by the calls alone.

// answered is what a call answers that may not answer an error.
func answered[T any](t *testing.T) func(a T, e api.Errno) T {
	return func(a T, e api.Errno) T {
		t.Helper()
		if e != api.OK {
			t.Fatal(a, e)
		}
		return a
	}
}

func TestEchelonOfEchelon(t *testing.T) {
	rowsOf := answered[[][]int](t)
	some(func(m [][]int, _, p int) {
		rows := rowsOf(flin.Echelon(m, p))
		again, e := flin.Echelon(rows, p)
		want(t, said("Echelon", p, rows), again, e, rows)
	})
}

func TestNullsAreAsMany(t *testing.T) {
	rowsOf := answered[[][]int](t)
	some(func(m [][]int, n, p int) {
		rows, basis := rowsOf(flin.Echelon(m, p)), rowsOf(flin.Null(m, n, p))
		if len(basis) != n-len(rows) || len(rowsOf(flin.Echelon(basis, p))) != len(basis) {
			t.Fatalf("%s: %v, %v", said("Null", p, m, n), rows, basis)
		}
		ofRows, e := flin.Null(rows, n, p)
		want(t, said("Null", p, rows, n), ofRows, e, basis)
	})
}

func TestNullsAreMadeNought(t *testing.T) {
	some(func(m [][]int, n, p int) {
		for _, v := range answered[[][]int](t)(flin.Null(m, n, p)) {
			sums, e := flin.Apply(m, v, p)
			wantRow(t, said("Apply", p, m, v), sums, e, make([]int, len(m)))
		}
	})
}

// Apply goes through a sum, and a row is made nought by what all rows of its Echelon make nought.
func TestApplyOfSums(t *testing.T) {
	r, row := newMaker(4), answered[[]int](t)
	some(func(m [][]int, n, p int) {
		a, b, sum, times := r.list(n, p), r.list(n, p), make([]int, n), r.IntN(p)
		for i := range sum {
			sum[i] = residue(a[i], p) + times*residue(b[i], p)
		}
		left, right := row(flin.Apply(m, a, p)), row(flin.Apply(m, b, p))
		wanted := make([]int, len(m))
		for i := range wanted {
			wanted[i] = (left[i] + times*right[i]) % p
		}
		if got := row(flin.Apply(m, sum, p)); !slices.Equal(got, wanted) {
			t.Fatalf("%s: %v, not %v", said("Apply", p, m, sum), got, wanted)
		}
	})
}
