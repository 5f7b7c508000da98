package zgcd

import (
	"slices"

	"cleaver/api"
	"cleaver/zint"
	"cleaver/zpoly"
)

// divided goes through a from the highest coefficient down. At each place where b can be taken away, what there is of a
// is taken as many times as b's last coefficient says, and then b as often as is left there.
// It answers how often b was taken, place by place, as it was then, and the rest, which is a itself, if that is short.
// Both are plain, and b is not nought.
func divided(a, b []api.Int) ([]api.Int, []api.Int) {
	top, lead := len(b)-1, last(b)
	taken := make([]api.Int, max(len(a)-top, 0))
	rest, scale := a[len(taken):], zint.Of(1)
	for place := len(taken) - 1; place >= 0; place-- {
		// what lies lower is brought up at once when its turn comes, and not step by step
		rest = slices.Concat([]api.Int{zint.Mul(a[place], scale)}, rest)
		taken[place] = coefficient(rest, top)
		below := rest[:min(len(rest), top)] // at the top nothing is left
		rest = zpoly.Sub(zpoly.Scale(below, lead), zpoly.Scale(b[:top], taken[place]))
		scale = zint.Mul(scale, lead)
	}
	return taken, rest
}

// quotientOf brings what was taken at each place up to what all was taken times since then.
func quotientOf(taken []api.Int, lead api.Int) []api.Int {
	scale := zint.Of(1)
	for place, times := range taken {
		taken[place] = zint.Mul(times, scale)
		scale = zint.Mul(scale, lead)
	}
	return taken
}

// last is the last coefficient of a polynomial that is not nought.
func last(a []api.Int) api.Int { return a[len(a)-1] }

// coefficient is the one at a place, 0 behind the end.
func coefficient(a []api.Int, place int) api.Int {
	if place >= len(a) {
		return api.Int{}
	}
	return a[place]
}
