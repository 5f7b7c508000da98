package zfac_test

import (
	"math/big"
	"slices"
	"testing"

	"cleaver/api"
)

// P16.1, P16.2: what is answered.

// known are some that are factored in the head.
func known() []product {
	one := small(1)
	return []product{
		free(1, poly(-1, 1), poly(1, 1), poly(1, 0, 1)), // x^4 - 1
		free(1, binomial(4, 1)),                         // by each prime it is two or four
		free(1, poly(-1, 2), poly(1, 3)),                // 6 x^2 - x - 1
		free(1, poly(0, 1)), free(-5, poly(0, 1)), free(1, poly(1, 1)), free(-1, poly(1, 1)), free(6, poly(-2, 3)),
		free(1, poly(0, 1), poly(1, 1)), free(1, poly(-1, 1), poly(0, 1), poly(1, 1)), free(-12, poly(0, 1), poly(1, 2)),
		free(1, poly(-2, 0, 1)), free(1, poly(1, 0, 1)), free(1, poly(2, -2, 1), poly(2, 2, 1)), // x^4 + 4
		free(1, poly(-2, 1), poly(1, 1), poly(-3, 1)), free(1, poly(1, -1, 1), poly(1, 1, 1)), free(1, binomial(3, -2)), free(7, poly(-3, 1), poly(-3, 2), poly(3, 2)),
		put(one, api.Factor{P: poly(0, 1), N: 2}), put(small(-8), api.Factor{P: poly(0, 1), N: 2}), put(one, api.Factor{P: poly(1, 1), N: 2}), put(small(-1), api.Factor{P: poly(1, 1), N: 2}), put(small(-3), api.Factor{P: poly(-2, 3), N: 2}),
		put(small(2), api.Factor{P: poly(1, 1), N: 1}, api.Factor{P: poly(-1, 1), N: 2}), put(one, api.Factor{P: poly(1, 0, 1), N: 2}), put(one, api.Factor{P: poly(1, 1), N: 3}, api.Factor{P: poly(0, 1), N: 3}),
		put(one, api.Factor{P: poly(1, 1), N: 1}, api.Factor{P: poly(0, 1), N: 2}), put(small(-2), api.Factor{P: poly(1, 0, 1), N: 3}, api.Factor{P: poly(-1, 1), N: 1}, api.Factor{P: poly(1, 1), N: 3}),
		put(one, api.Factor{P: poly(0, 1), N: 64}), put(one, api.Factor{P: poly(1, 2), N: 1}, api.Factor{P: poly(0, 1), N: 63}), put(one, api.Factor{P: poly(-1, 0, 0, 0, 2), N: 16}),
	}
}

func TestOfSome(t *testing.T) {
	for _, c := range known() {
		c.want(t, nil)
	}
}

// A constant is not irreducible, is squarefree, and has no factors; it is its own content.
func TestConstants(t *testing.T) {
	great := api.Int{Neg: true, Abs: slices.Repeat([]uint64{most}, 5000)}
	for _, a := range [][]api.Int{poly(1), poly(-1), poly(6), poly(-12), poly(1, 0, 0), {{Neg: true, Abs: []uint64{1, 0}}, {Neg: true}}, {{Abs: []uint64{0, 1}}}, {{Neg: true, Abs: []uint64{most, most, 0}}, {}, {Abs: []uint64{0}}}, append(poly(3), make([]api.Int, 100)...), {two(999, 0)}, {two(1000, 0)}, {great}} {
		product{a: a, by: norm(a)[0]}.want(t, nil)
	}
}

// All that are of degree 1 are irreducible, whatever numbers they are of.
func TestLines(t *testing.T) {
	for first := -9; first <= 9; first++ {
		for last := -9; last <= 9; last++ {
			if last != 0 {
				by := shared([]int{first, last})
				free(by, poly(first/by, last/by)).want(t, nil)
			}
		}
	}
	for bits := 1; bits < 480; bits += 13 {
		free(-4, []api.Int{two(bits, 1), two(bits, -1)}).want(t, nil)
	}
}

// Small polynomials, whose factors are found by trial.
func TestSmallOnes(t *testing.T) {
	for _, c := range []struct{ n, high, step int }{{3, 5, 1}, {4, 3, 2}, {5, 2, 2}, {5, 4, 61}, {6, 1, 1}, {6, 2, 17}} {
		low := lowOnes(c.high)
		for i, a := range all(c.n, c.high) {
			if i%c.step == 0 && len(trim(a)) > 1 {
				byTrial(a, low).want(t, nil)
			}
		}
	}
}

// Products of known factors, in any form.
func TestProducts(t *testing.T) {
	m := newMaker(1)
	for i := range 200 {
		c := m.product(1+m.IntN(5), 1+i%4, 1+m.IntN(24))
		c.a = m.unplain(c.a)
		c.want(t, nil)
	}
	for i := range 20 {
		c := m.product(1+m.IntN(9), 1+i%3, api.MaxDeg)
		c.a = m.unplain(c.a)
		c.want(t, nil)
	}
}

// Irreducible ones, and their multiples by numbers, are irreducible; products of two are not, nor are squares.
func TestIrreducible(t *testing.T) {
	for i, f := range irreducibles() {
		wantIrreducible(t, f, true)
		wantIrreducible(t, times(f, poly(-30)), true)
		wantIrreducible(t, times(f, f), false)
		for _, g := range irreducibles()[:i] {
			if i%5 == 0 {
				wantIrreducible(t, times(f, g), false)
			}
		}
	}
}

// divisorsOf are all numbers that divide a number.
func divisorsOf(n int) []int {
	var z []int
	for d := 1; d <= n; d++ {
		if n%d == 0 {
			z = append(z, d)
		}
	}
	return z
}

// x^n - 1 has a factor for each divisor of n; x^n + 1 those that x^2n - 1 has and x^n - 1 has not.
func TestCircles(t *testing.T) {
	circles := make([][]api.Int, 2*api.MaxDeg+1)
	for n := 1; n < len(circles); n++ {
		circles[n] = circle(n)
	}
	for n := 1; n <= api.MaxDeg; n++ {
		var minus, plus [][]api.Int
		for _, d := range divisorsOf(2 * n) {
			if n%d == 0 {
				minus = append(minus, circles[d])
			} else {
				plus = append(plus, circles[d])
			}
		}
		for _, c := range []product{free(1, minus...), free(1, plus...)} {
			if !same(c.a, binomial(n, -1)) && !same(c.a, binomial(n, 1)) {
				t.Fatal(n)
			}
			c.want(t, nil)
		}
		if n%7 == 0 {
			for i := range minus {
				minus[i] = shifted(minus[i], 2)
			}
			free(-3, minus...).want(t, nil)
		}
	}
	for n, c := range circles {
		if 1 < len(c) && len(c)-1 <= api.MaxDeg {
			wantIrreducible(t, circles[n], true)
		}
	}
	for _, n := range []int{120, 168, 180, 240} { // by each prime there are four at least, eight, or sixteen
		if c := circle(n); len(c)-1 <= api.MaxDeg {
			wantIrreducible(t, c, true)
		} else {
			t.Error(n)
		}
	}
}

// Irreducible ones that are of degree 1 and 2 by each prime, alone and beside each other, where they are, and elsewhere.
func TestClimbers(t *testing.T) {
	for s := -3; s <= 3; s++ {
		for _, c := range []product{
			free(1, climber(2, 3)), free(1, climber(2, 3, 5)), free(1, climber(2, 3, 5, 7)), free(-2, climber(-1, 2, 5, -7)), free(1, climber(2, 3, 5, 7, 11)), free(1, climber(6, 10, 7), climber(2, 3)),
			free(3, climber(2, 3), climber(2, 5), climber(3, 5), climber(2, 3, 5)), free(1, climber(2, 3, 5, 7), climber(2, 3, 5, 11), climber(11, 13, 17, 19)), free(1, climber(2, 3, 5), climber(3, 5, 7), climber(5, 7, 11), climber(-1, 2, 3), climber(-1, 3, 7), climber(-2, 5, 7)),
		} {
			var factors [][]api.Int
			for _, f := range c.factors {
				factors = append(factors, shifted(f.P, s))
			}
			free(1, factors...).want(t, nil)
		}
	}
	put(small(5), api.Factor{P: climber(2, 3, 5), N: 3}, api.Factor{P: climber(2, 3), N: 2}, api.Factor{P: poly(0, 1), N: 9}).want(t, nil)
}

// So many local factors that not all choices of them are gone through.
func TestManyLocalFactors(t *testing.T) {
	free(1, climber(2, 3, 5, 7, 11, 13)).want(t, nil)
	free(1, climber(2, 3, 5, 7, 11), climber(13, 17, 19, 23, 29)).want(t, nil)
}

// x^64 + c, with c from -64 to 64: it can't be parted, unless c is such a power, or 4 times a fourth one (Capelli).
func TestBinomials(t *testing.T) {
	square, fourths := map[int]bool{0: true, -1: true, -4: true, -9: true, -16: true, -25: true, -36: true, -49: true, -64: true}, map[int]bool{4: true, 64: true}
	for c := -64; c <= 64; c++ {
		wantIrreducible(t, binomial(64, c), !square[c] && !fourths[c])
	}
	free(1, plus(binomial(32, 2), big.NewInt(2), binomial(16, 0)), plus(binomial(32, 2), big.NewInt(-2), binomial(16, 0))).want(t, nil) // x^64 + 4
	free(1, binomial(32, 3), binomial(32, -3)).want(t, nil)
}

// Degree 64, of factors of few, of many, and of all degrees, and noughts behind it.
func TestHighestDegree(t *testing.T) {
	var lines, low [][]api.Int
	for n := range 36 {
		lines = append(lines, poly(n-17, 1))
	}
	for n := 1; n <= 10; n++ {
		low = append(low, binomial(n, 2))
	}
	for _, c := range []product{
		free(1, append(lines, circle(29))...), free(-7, circle(17), circle(64), circle(32)), free(3, binomial(60, -2), climber(2, 3)), free(1, append(low, binomial(9, 3))...), free(1, climber(2, 3, 5), circle(51), circle(16), circle(40)),
		put(small(4), api.Factor{P: poly(1, 1), N: 30}, api.Factor{P: poly(-1, 2), N: 33}, api.Factor{P: poly(0, 1), N: 1}), put(small(-1), api.Factor{P: binomial(8, 3), N: 8}), put(small(1), api.Factor{P: binomial(32, 6), N: 2}),
		put(small(2), api.Factor{P: circle(7), N: 5}, api.Factor{P: circle(9), N: 4}, api.Factor{P: poly(1, 0, 1), N: 5}),
	} {
		if len(c.a)-1 != api.MaxDeg {
			t.Fatal(len(c.a) - 1)
		}
		c.want(t, nil)
		c.a = append(slices.Clone(c.a), api.Int{}, api.Int{Neg: true}, api.Int{Abs: []uint64{0, 0}})
		c.want(t, nil)
	}
}

// Irreducible ones of each degree, alone, and with x beside them.
func TestEachDegree(t *testing.T) {
	m := newMaker(2)
	for n := 1; n <= api.MaxDeg; n += 1 + n/20 {
		f := m.eisenstein(n+1, 9)
		free(-1, f).want(t, nil)
		if n < api.MaxDeg {
			free(1, f, poly(0, 1)).want(t, nil)
		}
	}
}

// Numbers of many bits.
func TestGreatOnes(t *testing.T) {
	m := newMaker(3)
	for i := range 40 {
		var factors []api.Factor
		for n := range 1 + m.IntN(4) {
			factors = append(factors, api.Factor{P: m.eisenstein(2+n+m.IntN(3), 2+m.IntN(60)), N: 1 + i%2*m.IntN(3)})
		}
		put(m.number(), factors...).want(t, nil)
	}
	for range 10 {
		free(1, m.eisenstein(3, 100), m.eisenstein(9, 120), m.eisenstein(6, 90)).want(t, nil)
		free(1, m.eisenstein(65, 400)).want(t, nil)
	}
	put(small(-1), api.Factor{P: m.eisenstein(17, 150), N: 2}, api.Factor{P: m.eisenstein(3, 100), N: 3}).want(t, nil)
}

// Order: that of the highest coefficients, the last one first, and numbers below 0 ahead of others.
func TestOrder(t *testing.T) {
	wanted := [][]api.Int{
		poly(-7, 1), poly(-1, 1), poly(0, 1), poly(1, 1), {two(64, 0), small(1)}, poly(-3, 2), poly(1, 2), {two(70, 1), small(2)}, poly(-2, 3), {small(-1), two(65, 0)},
		poly(1, -1, 1), poly(-2, 0, 1), poly(1, 0, 1), {two(64, 1), {}, small(1)}, poly(-1, 1, 1), poly(1, 1, 1), poly(1, 5, 1), poly(-1, -1, 3), poly(1, 0, 3), poly(-1, 1, 3),
		poly(-2, 0, 0, 1), poly(2, 0, 0, 1), poly(1, 1, 0, 1), poly(1, 0, 1, 1), poly(1, 0, 0, 0, 1), circle(5),
	}
	for i := range len(wanted) - 1 {
		if order(wanted[i], wanted[i+1]) >= 0 {
			t.Fatal(i)
		}
	}
	m := newMaker(4)
	for range 15 {
		n := 2 + m.IntN(10)
		var places []int
		for len(places) < n {
			if place := m.IntN(len(wanted)); !slices.Contains(places, place) {
				places = append(places, place)
			}
		}
		slices.Sort(places)
		var factors []api.Factor
		a := poly(1)
		for _, place := range places {
			factors = append(factors, api.Factor{P: wanted[place], N: 1 + (place+n)%2})
			for range 1 + (place+n)%2 {
				a = times(wanted[place], a)
			}
		}
		wantFactors(t, a, nil, small(1), factors)
	}
	free(1, wanted[:20]...).want(t, nil)
	free(1, wanted[10:]...).want(t, nil)
}

// What is refused.

func TestNought(t *testing.T) {
	for _, a := range noughtLists() {
		for _, draws := range newMaker(5).someDraws() {
			wantError(t, a, draws, api.ErrNought)
		}
	}
}

func TestDegreeAboveTheLimit(t *testing.T) {
	for _, a := range longLists() {
		wantError(t, a, []int{3}, api.ErrLimit)
	}
}

// Split refuses whatever has a factor twice, also where it is the only one; numbers say nothing.
func TestSplitOfSquares(t *testing.T) {
	for _, f := range irreducibles() {
		wantNoSplit(t, times(f, f), nil, api.ErrArg)
		wantNoSplit(t, times(f, f, poly(3, 7)), []int{1}, api.ErrArg)
		wantNoSplit(t, times(f, f, f, poly(-4)), nil, api.ErrArg)
		wantSplit(t, times(f, poly(36)), nil, [][]api.Int{f})
	}
}

// bits is a product whose limit has so many.
type bits struct {
	c product
	n int
}

// aroundTheLimit are some of which the limit has 1000 bits, and next to none more, and others of which it has 1001.
func aroundTheLimit() []bits {
	minus, one := func(n int, more int) api.Int { return of(new(big.Int).Neg(value(two(n, more)))) }, small(1)
	var z []bits
	for _, often := range []int{1, 2, 5} {
		for _, by := range []int{1, -6} {
			line := func(first, last api.Int) product {
				return put(small(by), api.Factor{P: []api.Int{first, last}, N: often})
			}
			z = append(z,
				bits{line(two(998, -2), one), 1000}, bits{line(two(998, -1), one), 1001}, bits{line(minus(998, -2), one), 1000}, bits{line(minus(998, -1), one), 1001}, // 4 times one more
				bits{line(one, two(499, -1)), 1000}, bits{line(one, two(499, 0)), 1001}, bits{line(minus(0, 0), two(499, -1)), 1000}, bits{line(minus(0, 0), two(499, 0)), 1001}, // 4 times it times one more
			)
		}
	}
	square := func(c api.Int, n int) product { return put(one, api.Factor{P: []api.Int{c, {}, one}, N: n}) } // 8 times one more
	return append(z, bits{square(two(997, -2), 1), 1000}, bits{square(two(997, -1), 1), 1001}, bits{square(two(997, -2), 3), 1000}, bits{square(two(997, -1), 3), 1001},
		bits{free(1, []api.Int{two(499, 1), one}, []api.Int{two(498, -3), one}), 1000}, bits{free(1, []api.Int{two(499, 1), one}, []api.Int{two(498, 3), one}), 1001},
		bits{free(1, []api.Int{two(931, 3), small(2), {}, one}, poly(1, 1), circle(61)), 1000}, bits{free(1, []api.Int{two(932, 3), small(2), {}, one}, poly(1, 1), circle(61)), 1001})
}

// 2 Bound(R) times R's last coefficient may have 1000 bits, and no more.
func TestBitsAboveTheLimit(t *testing.T) {
	for _, x := range aroundTheLimit() {
		if n := limitBits(x.c.radical()); n != x.n {
			t.Fatal(text(x.c.a), n, x.n)
		}
		if x.n <= 1000 {
			x.c.want(t, nil)
		} else {
			wantError(t, x.c.a, []int{1, 2}, api.ErrLimit)
		}
	}
}

// Not a's coefficients are asked for, but its radical's: those of powers, and of multiples, may be far longer.
func TestRadicalsBits(t *testing.T) {
	one := small(1)
	for _, c := range []product{
		put(two(200000, 1), api.Factor{P: poly(1, 1), N: 1}), put(of(new(big.Int).Neg(value(two(5000, 7)))), api.Factor{P: poly(-1, 1), N: 2}, api.Factor{P: poly(2, 0, 1), N: 1}),
		put(one, api.Factor{P: []api.Int{two(998, -2), one}, N: 64}), put(one, api.Factor{P: []api.Int{two(499, -1), two(498, 1)}, N: 64}), put(small(9), api.Factor{P: []api.Int{two(485, 1), one}, N: 33}, api.Factor{P: []api.Int{two(485, 3), one}, N: 31}),
	} {
		if len(c.a) > 2 && limitBits(c.radical()) > 1000 {
			t.Fatal(text(c.a))
		}
		c.want(t, nil)
	}
}

// It is the limit that is told of what has squares in it and is past it, by Split, too; how far past it is no matter, nor is it
// how long the numbers are.
func TestFarAboveTheLimit(t *testing.T) {
	m := newMaker(6)
	long := m.eisenstein(22, 5000)
	great := api.Int{Neg: true, Abs: slices.Repeat([]uint64{most}, api.MaxLimbs)}
	for _, a := range [][]api.Int{
		times(poly(1, 1), poly(1, 1), []api.Int{two(1000, 0), small(1)}), times(long, long), times(long, long, long), times(long, long, poly(1, 2), poly(0, 1)), {great, small(1)}, {small(1), great}, m.eisenstein(65, 20000), {great, {}, {}, of(new(big.Int).Sub(value(great), big.NewInt(1)))},
		append(slices.Repeat([]api.Int{great}, api.MaxDeg), small(1)),
	} {
		wantError(t, a, nil, api.ErrLimit)
	}
}
