package zint

import (
	"cleaver/api"
	"cleaver/nat"
)

// Gcd is the greatest common divisor.
func Gcd(a, b api.Int) api.Int {
	if nat.Bits(a.Abs) <= limbBits && nat.Bits(b.Abs) <= limbBits {
		return signed(false, nat.Norm([]uint64{limbGcd(lowest(a.Abs), lowest(b.Abs))}))
	}
	rows := firstRows(a, b, nil)
	rows.goOn()
	return signed(false, rows.last)
}

// limbGcd is the greatest common divisor of two limbs.
func limbGcd(a, b uint64) uint64 {
	for b != 0 {
		a, b = b, a%b
	}
	return a
}

// Bezout is that, and of how many of both it is made.
func Bezout(a, b api.Int) (api.Int, api.Int, api.Int) {
	rows := firstRows(a, b, []uint64{1})
	rows.goOn()
	g, s := signed(false, rows.last), signed(rows.odd, rows.taken)
	t := othersTaken(g, s, a, b)
	if Sign(a) < 0 {
		s = signed(!s.Neg, s.Abs)
	}
	if Sign(b) < 0 {
		t = signed(!t.Neg, t.Abs)
	}
	return g, s, t
}

// othersTaken is how often the amount of b is taken into g, when that of a is s times.
// No row counts it, as g = s a + t b tells it in the end; of b = 0 none was ever taken.
func othersTaken(g, s, a, b api.Int) api.Int {
	left := Sub(g, Mul(s, api.Int{Abs: a.Abs}))
	t, _ := Exact(left, api.Int{Abs: b.Abs})
	return t
}
