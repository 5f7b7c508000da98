package short

import (
	"slices"

	"cleaver/api"
	"cleaver/ffac"
	"cleaver/fsqf"
	"cleaver/hensel"
	"cleaver/prime"
	"cleaver/zint"
	"cleaver/zpoly"
)

// mayBeParted: may a plain polynomial that is not nought be parted by a number? If so, it is squarefree itself, as the
// square of one that divides it would divide it by p, too, and be of the same degree there.
func mayBeParted(a []api.Int, p int) bool {
	if !prime.Is(p) {
		return false
	}
	rests, _ := zpoly.Mod(a, p)
	is, _ := fsqf.Is(rests, p)
	return is && len(rests) == len(a)
}

// isFactor: is h one of the factors by p^k of a polynomial that may be parted by p, by p irreducible, and told as it must be?
func isFactor(h, whole []api.Int, p, k int) bool {
	power, e := hensel.Power(p, k)
	if e != api.OK || len(h) < 2 || len(h) > len(whole) || !isMonicBy(h, power) {
		return false
	}
	_, rest, _ := hensel.Div(whole, h, power)
	local, _ := zpoly.Mod(h, p)
	is, _ := ffac.Irreducible(local, p)
	return is && len(rest) == 0
}

// isMonicBy: are the coefficients of one that has some rests by m as they stand, and is the last one 1?
func isMonicBy(h []api.Int, m api.Int) bool {
	rests, _ := hensel.Red(h, m)
	return slices.EqualFunc(h, rests, stand) && stand(h[len(h)-1], zint.Of(1))
}

// stand: do two integers stand there alike?
func stand(a, b api.Int) bool { return a.Neg == b.Neg && slices.Equal(a.Abs, b.Abs) }
