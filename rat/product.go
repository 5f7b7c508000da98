package rat

import (
	"cleaver/api"
	"cleaver/zint"
)

// Mul is the product.
func Mul(a, b api.Rat) api.Rat {
	a, b = counted(a), counted(b)
	return shortened(zint.Mul(a.Num, b.Num), a.Den, b.Den)
}

// Div is the quotient.
func Div(a, b api.Rat) (api.Rat, api.Errno) {
	if Sign(b) == 0 {
		return api.Rat{}, api.ErrZero
	}
	return Mul(a, upturned(b)), api.OK
}

// upturned is a fraction that is not 0 with its numbers exchanged; the sign stays above.
func upturned(a api.Rat) api.Rat {
	return api.Rat{Num: api.Int{Neg: a.Num.Neg, Abs: a.Den}, Den: a.Num.Abs}
}
