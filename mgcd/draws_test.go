package mgcd_test

import (
	"math/big"
	"slices"
	"testing"

	"cleaver/api"
	"cleaver/mgcd"
	"cleaver/modulus"
)

// Draws say nothing but how long it takes, even where they are the worst that can be. They are known: they are always the same ones.

// found fails, unless that is the Gcd of two, or the Radical of one.
func found(t *testing.T, what string, n int, wanted []api.Term, sides ...[]api.Term) {
	t.Helper()
	if len(sides) == 1 {
		z, e := mgcd.Radical(n, sides[0])
		want(t, what, z, e, wanted)
		return
	}
	z, e := mgcd.Gcd(n, sides[0], sides[1])
	want(t, what, z, e, wanted)
}

// whole is the product of some primes.
func whole(primes ...uint64) *big.Int {
	z := big.NewInt(1)
	for _, p := range primes {
		z.Mul(z, new(big.Int).SetUint64(p))
	}
	return z
}

// plusOften is a and so many times b.
func plusOften(n int, a []api.Term, often *big.Int, b []api.Term) []api.Term {
	return norm(n, slices.Concat(a, times(n, []api.Term{{C: of(often), E: make([]int, n)}}, b)))
}

// bad are products of some of the first primes: those of the looks at two variables, by which a quest begins, of the search, of both.
func bad() []*big.Int {
	p, _ := mgcd.Drawn(20)
	return []*big.Int{whole(p[0]), whole(p[1]), whole(p[:2]...), whole(p[2]), whole(p[3]), whole(p[2:4]...), whole(p[:3]...), whole(p[:4]...), whole(p[1:3]...), whole(p[4:9]...), whole(p[:11]...), whole(p...)}
}

// Primes that divide the first coefficients, or the last ones, by which a look would be of a lower degree.
func TestPrimesThatDivideTheEnds(t *testing.T) {
	a, b := poly(2, "x2 +y +3"), poly(2, "xy2 -x -1")
	for _, p := range bad() {
		for _, ends := range [][2]string{{"x3y3", "xy -2x -3y +5"}, {"1", "x3y3 +xy -2x -3y"}, {"x3y3 +1", "xy -2x -3y"}} {
			g := plusOften(2, poly(2, ends[1]), p, poly(2, ends[0]))
			found(t, "the Gcd", 2, g, times(2, a, g), times(2, b, g))
			found(t, "the Radical", 2, times(2, a, g), times(2, a, g, g))
			found(t, "the Gcd", 2, b, times(2, b, g), times(2, b, a))
		}
	}
}

// Primes that divide a coefficient of what is sought, so that one of its terms is not seen.
func TestPrimesThatHideTerms(t *testing.T) {
	a, b := poly(2, "x2 +y +3"), poly(2, "xy2 -x -1")
	for _, p := range bad() {
		for _, s := range []string{"xy", "x2y +3", "1", "x3 +y -xy +3"} {
			g := plusOften(2, poly(2, "x4 +y4 +x2 +7"), p, poly(2, s))
			found(t, "the Gcd", 2, g, times(2, a, g), times(2, b, g))
			found(t, "the Radical", 2, times(2, a, g), times(2, a, g, g))
		}
	}
}

// Primes by which two have more in common than they have, or one has a factor twice that it has once.
func TestPrimesThatSeeMore(t *testing.T) {
	g, a, more := poly(2, "x2 +xy -2y +7"), poly(2, "x2 +y +3"), poly(2, "xy2 -x -1")
	for _, p := range bad() {
		b := plusOften(2, a, p, more)
		found(t, "the Gcd", 2, g, times(2, a, g), times(2, b, g))
		found(t, "the Gcd", 2, unit(2), a, b)
		found(t, "the Radical", 2, times(2, a, b), times(2, a, b, a))
		found(t, "the Radical", 2, times(2, a, b), times(2, a, b))
	}
}

// The first point of the search sees more in common than the next one: a term less its number there, in which there is no z.
func TestPointThatSeesMore(t *testing.T) {
	g, hits := poly(2, "x2 +xy -2y +7"), 0
	for _, c := range [][2]string{{"x2y", "x2 +y +3"}, {"y", "x2 +xy +7"}, {"y", "x3 +xy +7"}, {"y", "x4 +xy +3"}, {"y", "x5 +x2y +7"}} {
		free, a := poly(2, c[0]), poly(2, c[1])
		with := func(number *big.Int) []api.Term { return plusOften(2, plusTimes(2, a, 1, free), number, poly(2, "-1")) }
		at, weights := mgcd.FirstPoint(2, times(2, a, g), times(2, with(big.NewInt(101)), g))
		number, z := big.NewInt(1), uint64(0)
		for i, e := range free[0].E {
			number.Mul(number, new(big.Int).Exp(whole(at[i]), big.NewInt(int64(e)), nil))
			z += weights[i] * uint64(e)
		}
		if z == 0 {
			hits++
			p, _ := mgcd.Drawn(3)
			found(t, "the Gcd", 2, g, times(2, a, g), times(2, with(number.Mod(number, whole(p[2]))), g))
		}
	}
	if hits == 0 {
		t.Error("no point was bad")
	}
}

// A row of sums of powers is told by as many as make it.
func TestRows(t *testing.T) {
	l := &modulus.Lot{}
	m := l.Prime()
	for count := range 20 {
		var numbers, ratios, seen []uint64
		for range count {
			numbers, ratios = append(numbers, l.Below(m.P-1)+1), append(ratios, l.Below(m.P-1)+1)
		}
		for k := range 2*count + 1 {
			sum := uint64(0)
			for i, x := range numbers {
				sum = m.Plus(sum, m.Times(x, m.Power(ratios[i], uint64(k))))
			}
			seen = append(seen, sum)
		}
		few, told, ok := mgcd.Row(m, seen)
		slices.Sort(ratios)
		slices.Sort(told)
		if few != count || !ok || !slices.Equal(told, ratios) {
			t.Fatalf("%d terms: %d, %v, %d, not %d", count, few, ok, told, ratios)
		}
	}
	for _, seen := range [][]uint64{{5, 0, 0}, {0, 0, 5, 0, 0, 0, 0}, {1, 2, 2, 2, 2}} {
		if few, told, ok := mgcd.Row(m, seen); ok {
			t.Errorf("%d, which no powers make: %d, %d", seen, few, told)
		}
	}
}

func TestRoots(t *testing.T) {
	l := &modulus.Lot{}
	m := l.Prime()
	for _, f := range [][]uint64{{0, 0, m.One}, {m.One, m.Of(2), m.One}, {m.One, m.One, m.Of(3), m.One, m.One, m.One}} {
		if all, ok := mgcd.Roots(m, f); ok {
			t.Errorf("%d has the roots %d", f, all)
		}
	}
	for _, c := range []struct{ list []uint64 }{{nil}, {[]uint64{0}}, {[]uint64{7}}, {[]uint64{0, 7}}, {[]uint64{1, m.P - 1}}, {[]uint64{1, 2, 3, 4, 5, 6, 7}}} {
		f := []uint64{m.One}
		var wanted []uint64
		for _, x := range c.list {
			wanted = append(wanted, m.Of(x))
			next := make([]uint64, len(f)+1)
			for k, a := range f {
				next[k+1] = m.Plus(next[k+1], a)
				next[k] = m.Minus(next[k], m.Times(a, m.Of(x)))
			}
			f = next
		}
		all, ok := mgcd.Roots(m, f)
		slices.Sort(all)
		slices.Sort(wanted)
		if !ok || !slices.Equal(all, wanted) {
			t.Errorf("the roots %d: %d, %v", wanted, all, ok)
		}
	}
}

// The remainders of polynomials of one variable, whose degrees fall by any numbers.
func TestCommon(t *testing.T) {
	l := &modulus.Lot{}
	m := l.Prime()
	dense := func(list ...int) []uint64 {
		a := make([]uint64, len(list))
		for k, x := range list {
			a[k] = m.Of(uint64(max(x, -x)))
			if x < 0 {
				a[k] = m.Minus(0, a[k])
			}
		}
		return a
	}
	for _, c := range [][3][]uint64{
		{dense(-1, 0, 1), dense(1, 1), dense(1, 1)},
		{dense(-1, 0, 0, 0, 0, 0, 1), dense(-1, 0, 0, 0, 1), dense(-1, 0, 1)},
		{dense(-1, 0, 0, 0, 0, 0, 1), dense(2, 0, 0, 0, 1), dense(1)},
		{dense(0, 0, 3), dense(), dense(0, 0, 1)},
		{dense(), dense(4, 2), dense(2, 1)},
		{dense(5), dense(4, 2), dense(1)},
		{dense(0, 0, 0, 0, 7), dense(0, 0, 2, 0, 0, 0), dense(0, 0, 1)},
		{dense(1, 2, 1, 0, 0), dense(2, 3, 1), dense(1, 1)},
		{dense(6, 11, 6, 1), dense(-2, -1, 2, 1), dense(2, 3, 1)},
	} {
		if z := mgcd.Common(m, c[0], c[1]); !slices.Equal(z, c[2]) {
			t.Errorf("%d, %d: %d, not %d", c[0], c[1], z, c[2])
		}
	}
}

func TestLast(t *testing.T) {
	if n, s := mgcd.Last([]int{1, 2, 3}), mgcd.Last([]string{"x"}); n != 3 || s != "x" {
		t.Error(n, s)
	}
}
