package flin

import (
	"slices"

	"cleaver/fp"
)

// row is a row of plain residues, and the place of its first one that is not 0, which is 1.
type row struct {
	first    int
	residues []int
}

// echelon is what the rows of a matrix span, by rows of which each stands alone in the column of its first residue, from
// the left to the right. A row of the matrix that these span already adds none.
func echelon(m [][]int, p int) []row {
	var rows []row
	for _, residues := range m {
		left := less(plain(residues, p), p, rows...)
		first := slices.IndexFunc(left, func(residue int) bool { return residue != 0 })
		if first < 0 {
			continue
		}
		next := row{first, byFirst(left, first, p)}
		for i, r := range rows {
			rows[i].residues = less(r.residues, p, next)
		}
		rows = slices.Insert(rows, placeOf(next, rows), next)
	}
	return rows
}

// less is what is left of plain residues, when so many times each row is taken away that there is nought at the place of
// its first residue. The rows must have nought at one another's first places: so none spoils what another one did, and all
// are taken away in one sum, which has room for as many as a matrix may have.
func less(a []int, p int, rows ...row) []int {
	return made(len(a), p, func(column int) int {
		left := a[column]
		for _, r := range rows {
			left -= a[r.first] * r.residues[column]
		}
		return left
	})
}

// plain are residues, plain.
func plain(a []int, p int) []int {
	return made(len(a), p, func(column int) int { return a[column] })
}

// byFirst are plain residues by the one at a place, which is not 0.
func byFirst(a []int, first, p int) []int {
	over, _ := fp.Inv(a[first], p) // a plain residue that is not 0 has one
	return made(len(a), p, func(column int) int { return over * a[column] })
}

// made are n plain residues, of which each is told by its column.
func made(n, p int, told func(column int) int) []int {
	z := make([]int, n)
	for column := range z {
		z[column] = fp.Red(told(column), p)
	}
	return z
}

// placeOf is where a row belongs among rows that stand from the left to the right.
func placeOf(next row, rows []row) int {
	place, _ := slices.BinarySearchFunc(rows, next.first, func(r row, first int) int { return r.first - first })
	return place
}
