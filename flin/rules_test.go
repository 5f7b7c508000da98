package flin_test

import (
	"slices"
	"testing"

	"cleaver/flin"
)

// answers are the rows that all calls make of these, the errors left out.
func answers(m [][]int, v []int, n, p int) [][]int {
	rows, _ := flin.Echelon(m, p)
	basis, _ := flin.Null(m, n, p)
	sums, _ := flin.Apply(m, v, p)
	return append(slices.Concat(rows, basis), sums)
}

// roomy is a list with memory behind it, which is none of anyone's business.
func roomy(a []int) []int { return append(slices.Clone(a), 11, 12)[:len(a)] }

// isUntouched tells that a roomy list is still what it was made of.
func isUntouched(roomy, a []int) bool {
	return slices.Equal(roomy, a) && slices.Equal(roomy[:len(a)+2][len(a):], []int{11, 12})
}

// roomyMatrix is a matrix of roomy rows, with one more behind them.
func roomyMatrix(m [][]int) [][]int {
	var z [][]int
	for _, row := range m {
		z = append(z, roomy(row))
	}
	return append(z, []int{13})[:len(m)]
}

// scribble overwrites a list as far as its memory goes.
func scribble(l []int) {
	l = l[:cap(l)]
	for i := range l {
		l[i] = 0xdead
	}
}

// R3: what is handed in is not changed, and no row of an answer shares memory with it, or with another one.
func TestMemoryIsNew(t *testing.T) {
	r := newMaker(5)
	some(func(m [][]int, n, p int) {
		list := r.list(n, p)
		x, v := roomyMatrix(m), roomy(list)
		rows, kept := answers(x, v, n, p), answers(copied(m), slices.Clone(list), n, p)
		for i, row := range rows {
			if !slices.Equal(row, kept[i]) {
				t.Fatalf("row %d: shares memory, or is not the same twice: %s", i, said("", p, m, list))
			}
			scribble(row)
		}
		for i, row := range x {
			if !isUntouched(row, m[i]) {
				t.Fatalf("row %d of what was handed in has changed: %s", i, said("", p, m, list))
			}
		}
		if !isUntouched(v, list) || !slices.Equal(x[:len(m)+1][len(m)], []int{13}) {
			t.Fatalf("what was handed in has changed: %s", said("", p, m, list))
		}
	})
}

// Nor are the rows of an answer kept in the list of those that were handed in, or in that of another answer.
func TestListsOfRowsAreNew(t *testing.T) {
	m := [][]int{{1, 0, 2}, {0, 1, 3}}
	wanted := append(copied(m), copied([][]int{{3, 2, 1}})...)
	var answers [][][]int
	for range 2 {
		rows, _ := flin.Echelon(m, 5)
		basis, _ := flin.Null(m, 3, 5)
		if !same(append(copied(m), basis...), wanted) || !same(rows, m) {
			t.Fatal(m, rows, basis)
		}
		answers = append(answers, rows, basis)
		for _, rows := range answers {
			clear(rows[:cap(rows)])
		}
	}
}

// One list as all rows of a matrix, and as what it is applied to, is no matter.
func TestSameListOften(t *testing.T) {
	r := newMaker(6)
	for _, p := range primes() {
		for n := range 10 {
			row := r.list(n, p)
			shared := slices.Repeat([][]int{row}, n)
			alike, apart := answers(shared, row, n, p), answers(copied(shared), slices.Clone(row), n, p)
			if !same(alike, apart) {
				t.Fatalf("%s: %v, %v", said("", p, row), alike, apart)
			}
		}
	}
}

// R4: residues that are not plain are taken by their rests, and answered plain.
func TestNotPlain(t *testing.T) {
	r := newMaker(7)
	some(func(m [][]int, n, p int) {
		v := r.list(n, p)
		got, wanted := answers(m, v, n, p), answers(norm(m, p), norm([][]int{v}, p)[0], n, p)
		if !same(got, wanted) || !same(norm(got, p), got) {
			t.Fatalf("%s: %v, not %v", said("", p, m, v), got, wanted)
		}
	})
}
