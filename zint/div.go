package zint

import (
	"cleaver/api"
	"cleaver/nat"
)

// Div is how often one goes into another one, and the rest.
func Div(a, b api.Int) (api.Int, api.Int, api.Errno) {
	quotient, rest, e := nat.Div(a.Abs, b.Abs)
	if e != api.OK {
		return api.Int{}, api.Int{}, e
	}
	switch {
	case a.Neg && len(rest) > 0: // one b more is taken, as no rest is below 0
		quotient = nat.Add(quotient, []uint64{1})
		rest, _ = nat.Sub(b.Abs, rest)
		fallthrough
	default:
		return signed(a.Neg != b.Neg, quotient), signed(false, rest), api.OK
	}
}

// Exact is the quotient, if there is no rest.
func Exact(a, b api.Int) (api.Int, api.Errno) {
	quotient, rest, e := Div(a, b)
	switch {
	case e != api.OK:
		return api.Int{}, e
	case Sign(rest) != 0:
		return api.Int{}, api.ErrExact
	}
	return quotient, api.OK
}
