package ffac

import "cleaver/flin"

// degrees are the products of the irreducible factors of each degree, of a monic squarefree polynomial. Raised to the
// p-th power d times, x is x again by those irreducible polynomials whose degrees divide d, and by no others; those of
// lower degrees are divided away by then.
func degrees(whole []int, p int) [][]int {
	var products [][]int
	x, left := []int{0, 1}, whole
	matrix, raised := raising(whole, p), make([]int, len(whole)-1)
	copy(raised, rest(x, whole, p))
	for range raised {
		raised, _ = flin.Apply(matrix, raised, p)
		product := gcd(minus(raised, x, p), left, p)
		products = append(products, product)
		left = quotient(left, product, p)
	}
	return products
}

// raising is the matrix that makes of a polynomial, by whole, its p-th power. As a sum's p-th power is the sum of its
// terms' ones, its columns are those of the powers of x.
func raising(whole []int, p int) [][]int {
	degree := len(whole) - 1
	matrix := make([][]int, degree)
	for row := range matrix {
		matrix[row] = make([]int, degree)
	}
	column, step := []int{1}, power([]int{0, 1}, p, whole, p)
	for at := range degree {
		for row, c := range column {
			matrix[row][at] = c
		}
		column = rest(times(column, step, p), whole, p)
	}
	return matrix
}

// ownPowers is a basis of all polynomials of lower degrees than whole, by which they are their own p-th powers.
func ownPowers(whole []int, p int) [][]int {
	matrix := raising(whole, p)
	for at := range matrix {
		matrix[at][at]--
	}
	basis, _ := flin.Null(matrix, len(matrix), p)
	return basis
}
