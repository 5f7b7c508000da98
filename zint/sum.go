package zint

import (
	"cleaver/api"
	"cleaver/nat"
)

// Neg is it below 0.
func Neg(a api.Int) api.Int {
	return signed(!a.Neg, nat.Norm(a.Abs))
}

// Add is the sum.
func Add(a, b api.Int) api.Int {
	switch {
	case a.Neg == b.Neg:
		return signed(a.Neg, nat.Add(a.Abs, b.Abs))
	case nat.Cmp(a.Abs, b.Abs) < 0: // the sign is that of the greater amount
		a, b = b, a
		fallthrough
	default:
		left, _ := nat.Sub(a.Abs, b.Abs)
		return signed(a.Neg, left)
	}
}

// Sub is the difference.
func Sub(a, b api.Int) api.Int {
	return Add(a, api.Int{Neg: !b.Neg, Abs: b.Abs})
}

// Mul is the product.
func Mul(a, b api.Int) api.Int {
	return signed(a.Neg != b.Neg, nat.Mul(a.Abs, b.Abs))
}
