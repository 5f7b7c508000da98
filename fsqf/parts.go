package fsqf

import (
	"cmp"
	"slices"
)

// parts are those of a monic polynomial. A derivative does not tell the factors whose numbers p divides, but they are
// all that is left then, a p-th power: its root has them by that much less often, so it is gone up from power to power
// till none is left. No number is found by two powers, but not all of a lower one are below those of a higher one.
func parts(a []int, p int) []Part {
	var all []Part
	power := 1
higher:
	found, left := partsTold(a, p)
	for _, part := range found {
		all = append(all, Part{part.P, part.N * power})
	}
	if !isConstant(left) {
		a, power = root(left, p), power*p
		goto higher
	}
	slices.SortFunc(all, func(x, y Part) int { return cmp.Compare(x.N, y.N) })
	return all
}

// partsTold are the parts of a monic polynomial whose numbers p does not divide, and all of it that is left without
// them. Its greatest common divisor with the derivative has each such factor once less, and each other one as often;
// from step to step all those whose number is reached fall out.
func partsTold(a []int, p int) ([]Part, []int) {
	var found []Part
	left := gcd(a, derivative(a, p), p)
	once := quotient(a, left, p)
	for n := 1; !isConstant(once); n++ {
		more := gcd(once, left, p)
		if len(more) < len(once) {
			found = append(found, Part{quotient(once, more, p), n})
		}
		once, left = more, quotient(left, more, p)
	}
	return found, left
}

// root is that of a p-th power: a sum's p-th power is the sum of its terms' ones, and each residue is its own.
func root(power []int, p int) []int {
	var z []int
	for place := 0; place < len(power); place += p {
		z = append(z, power[place])
	}
	return z
}
