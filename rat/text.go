package rat

import (
	"strings"

	"cleaver/api"
	"cleaver/nat"
	"cleaver/zint"
)

// bar stands between both numbers.
const bar = "/"

// Text is its decimal digits.
func Text(a api.Rat) string {
	plain := Norm(a)
	if isOne(plain.Den) {
		return zint.Text(plain.Num)
	}
	return zint.Text(plain.Num) + bar + nat.Text(plain.Den)
}

// Parse is the fraction of a text.
func Parse(s string) (api.Rat, api.Errno) {
	upper, below, hasBar := strings.Cut(s, bar)
	num, e := zint.Parse(upper)
	if e != api.OK {
		return api.Rat{}, e
	}
	if !hasBar {
		return api.Rat{Num: num, Den: one()}, api.OK
	}
	den, e := nat.Parse(below)
	if e != api.OK || !isTold(num, den) {
		return api.Rat{}, api.ErrText
	}
	return api.Rat{Num: num, Den: den}, api.OK
}

// isTold: does a text tell these two numbers? It does of plain ones alone, and leaves a lower number of 1 out.
func isTold(num api.Int, den []uint64) bool {
	return nat.Bits(den) > 1 && isOne(zint.Gcd(num, api.Int{Abs: den}).Abs)
}
