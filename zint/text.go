package zint

import (
	"strings"

	"cleaver/api"
	"cleaver/nat"
)

// Text is its decimal digits.
func Text(a api.Int) string {
	if Sign(a) < 0 {
		return "-" + nat.Text(a.Abs)
	}
	return nat.Text(a.Abs)
}

// Parse is the integer of a text.
func Parse(s string) (api.Int, api.Errno) {
	digits, neg := strings.CutPrefix(s, "-")
	amount, e := nat.Parse(digits)
	switch {
	case e != api.OK:
		return api.Int{}, e
	case neg && len(amount) == 0:
		return api.Int{}, api.ErrText
	}
	return signed(neg, amount), api.OK
}
