package ffac

import "cleaver/fp"

// split are the irreducible factors of a monic squarefree polynomial. By each of them each own power is a residue, and
// no two factors have the same residues by all own powers; so a basis of these has as many as there are factors, and
// each one parts what it can, shift by shift. The draws say where its shifts begin, and nothing else.
func split(whole []int, p int, draws []int) [][]int {
	if isConstant(whole) {
		return nil
	}
	own, factors := ownPowers(whole, p), [][]int{whole}
	// part tells whether some factor still has unlike residues when it begins: if none has, no other shift parts more.
	part := func(by []int, shift int) bool {
		var parts [][]int
		mixed := false
		for _, f := range factors {
			residues := rest(by, f, p)
			if isConstant(residues) {
				parts = append(parts, f)
				continue
			}
			mixed = true
			parts = append(parts, halves(f, plus(residues, []int{shift}, p), p)...)
		}
		factors = parts
		return mixed
	}
parting:
	for i, by := range own {
		for shift := drawn(draws, i, p); part(by, shift); shift++ {
			if len(factors) == len(own) {
				break parting
			}
		}
	}
	return factors
}

// halves are the product of f's factors by which a polynomial, there a residue each time, is a square but 0, and the
// product of all others; f alone, if one of these is 1. By 2, 1 is that square, and no power is needed to tell it. Of
// two unlike residues some shift makes one such a square and the other none: else steps as wide as what they differ by
// would lead from squares to squares alone, and they lead to all residues.
func halves(f, residues []int, p int) [][]int {
	ones := power(residues, max(1, (p-1)/2), f, p)
	squares := gcd(f, minus(ones, []int{1}, p), p)
	if isConstant(squares) || len(squares) == len(f) {
		return [][]int{f}
	}
	return [][]int{squares, quotient(f, squares, p)}
}

// drawn is the residue of one of the draws; 0, where there are none any more.
func drawn(draws []int, at, p int) int {
	if at >= len(draws) {
		return 0
	}
	return fp.Red(draws[at], p)
}
