package rat

import (
	"cleaver/api"
	"cleaver/zint"
)

// Cmp is -1, 0, 1, as one is less than, is, is greater than another one.
func Cmp(a, b api.Rat) int {
	upper := crosswise(counted(a), counted(b))
	return zint.Sign(upper(zint.Sub))
}

// Neg is it below 0.
func Neg(a api.Rat) api.Rat {
	negative := Norm(a)
	negative.Num = zint.Neg(negative.Num)
	return negative
}

// Add is the sum.
func Add(a, b api.Rat) api.Rat { return joined(a, b, zint.Add) }

// Sub is the difference.
func Sub(a, b api.Rat) api.Rat { return joined(a, b, zint.Sub) }

// joined is what two fractions make whose upper numbers are joined.
// What their lower numbers share is set aside till then, so that the upper ones are not raised by it.
func joined(a, b api.Rat, join func(x, y api.Int) api.Int) api.Rat {
	a, b = counted(a), counted(b)
	shared := zint.Gcd(lower(a), lower(b)).Abs
	a.Den, b.Den = quotient(a.Den, shared), quotient(b.Den, shared)
	upper := crosswise(a, b)
	return shortened(upper(join), a.Den, b.Den, shared)
}

// crosswise answers what tells the upper number that two fractions make above the product of their lower ones:
// each one's upper number is raised by the other one's lower number, and both are joined.
func crosswise(a, b api.Rat) func(join func(x, y api.Int) api.Int) api.Int {
	return func(join func(x, y api.Int) api.Int) api.Int {
		return join(zint.Mul(a.Num, lower(b)), zint.Mul(b.Num, lower(a)))
	}
}
