package zgcd_test

import (
	"testing"

	"cleaver/api"
	"cleaver/zgcd"
)

// P11.2

func TestGcdOfSome(t *testing.T) {
	for _, c := range []struct{ a, b, g []api.Int }{
		{poly(-4, 0, 4), poly(6, 6), poly(2, 2)}, {poly(-4, 0, 4, 0), poly(-6, -6, 0), poly(2, 2)}, {poly(-1, 0, 1), poly(1, -1), poly(-1, 1)}, {poly(-2, 0, 1), poly(-3, 0, 1), poly(1)},
		// nought, and what it has in common with others: all of them
		{nil, nil, nil}, {poly(0, 0), poly(0), nil}, {nil, poly(4, -6), poly(-4, 6)}, {poly(4, -6), nil, poly(-4, 6)}, {poly(0), poly(-5), poly(5)}, {poly(-5, 0), poly(0, 0), poly(5)}, {poly(4, 6), nil, poly(4, 6)},
		// numbers
		{poly(12), poly(-18), poly(6)}, {poly(12), poly(-18, 9), poly(3)}, {poly(-18, 10), poly(4), poly(2)}, {poly(7), poly(5), poly(1)}, {poly(1), poly(0, 0, 9), poly(1)}, {poly(-6), poly(0, -6), poly(6)},
		// what is shared by the coefficients alone, by the polynomials alone
		{poly(6, 6), poly(-4, 4), poly(2)}, {poly(6, 6), poly(4, 4), poly(2, 2)}, {poly(3, 3), poly(2, 2), poly(1, 1)}, {poly(0, 0, 6), poly(0, 4), poly(0, 2)}, {poly(0, 0, 0, 1), poly(0, 0, 5), poly(0, 0, 1)},
		{poly(1, 2, 1), poly(1, 1), poly(1, 1)}, {poly(-1, -2, -1), poly(-1, -2, -1), poly(1, 2, 1)}, {poly(-2, -1, 6), poly(-1, 0, 9), poly(1)}, {poly(-1, -1, 6), poly(-1, 0, 9), poly(1, 3)},
		{times(poly(1, 1), poly(-2, 0, 1)), times(poly(-2, 0, 1), poly(1, 0, 1)), poly(-2, 0, 1)},
		// the numbers of an example of Knuth's
		{poly(-5, 2, 8, -3, -3, 0, 1, 0, 1), poly(21, -9, -4, 0, 5, 0, 3), poly(1)},
	} {
		want(t, said("Gcd", c.a, c.b), zgcd.Gcd(c.a, c.b), c.g)
		want(t, said("Gcd", c.b, c.a), zgcd.Gcd(c.b, c.a), c.g)
		want(t, said("divisor", c.a, c.b), divisor(c.a, c.b), c.g)
	}
}

func TestGcd(t *testing.T) {
	pairs(func(a, b []api.Int) {
		want(t, said("Gcd", a, b), zgcd.Gcd(a, b), divisor(a, b))
	})
}

// smallOnes are all polynomials of up to three coefficients from -2 to 2 but nought.
func smallOnes() [][]api.Int {
	var list [][]api.Int
	for _, a := range all(3, 2) {
		if len(a) > 0 && len(norm(a)) == len(a) {
			list = append(list, a)
		}
	}
	return list
}

// Of all small ones: it divides both, and all that divide both divide it.
func TestGcdIsTheGreatest(t *testing.T) {
	list := smallOnes()
	divisors := make([]map[int]int, len(list)) // of each one, by their places in the list
	for i, a := range list {
		divisors[i] = map[int]int{}
		for j, d := range list {
			if divides(d, a) {
				divisors[i][j] = j
			}
		}
	}
	for i, a := range list {
		for j, b := range list {
			g := zgcd.Gcd(a, b)
			if len(g) == 0 || value(g[len(g)-1]).Sign() <= 0 || !divides(g, a) || !divides(g, b) {
				t.Fatalf("%s: %s", said("Gcd", a, b), text(g))
			}
			for k := range divisors[i] {
				if _, both := divisors[j][k]; both && !divides(list[k], g) {
					t.Fatalf("%s: %s, which %s does not divide", said("Gcd", a, b), text(g), text(list[k]))
				}
			}
		}
	}
}

// Two that have nothing in common, whose highest coefficient is above 0, and what is put to both of them.
func TestGcdIsWhatBothHave(t *testing.T) {
	m := newMaker(4)
	for range 300 {
		a, b := times(poly(-1, 3), poly(2, 0, 1)), times(poly(1, 1, 1), poly(5, -2))
		for range m.IntN(4) {
			a, b = times(a, poly(-1, 3)), times(b, poly(5, -2))
		}
		c := m.unlike(6)
		wanted := norm(c)
		if value(wanted[len(wanted)-1]).Sign() < 0 {
			wanted = times(wanted, poly(-1))
		}
		want(t, said("Gcd", a, b, c), zgcd.Gcd(times(a, c), times(b, c)), wanted)
	}
}

// How often a factor is in both is the least of how often it is in each.
func TestGcdOfPowers(t *testing.T) {
	f, g := poly(-3, 2), poly(1, 0, 5)
	pow := func(a []api.Int, n int) []api.Int {
		z := poly(1)
		for range n {
			z = times(z, a)
		}
		return z
	}
	for i := range 4 {
		for j := range 4 {
			for k := range 4 {
				for l := range 4 {
					a, b := times(pow(f, i), pow(g, j), poly(-4)), times(pow(f, k), pow(g, l), poly(6))
					want(t, said("Gcd", a, b), zgcd.Gcd(a, b), times(pow(f, min(i, k)), pow(g, min(j, l)), poly(2)))
				}
			}
		}
	}
}

// Polynomials as they are factored later on: of degrees up to 64, with great coefficients.
func TestGcdOfGreatOnes(t *testing.T) {
	m := newMaker(5)
	for _, bits := range []int{8, 60, 130} {
		a, b, c := m.long(33, bits), m.long(30, bits), m.long(32, bits)
		c = zgcd.Gcd(nil, c)
		if g := zgcd.Gcd(times(a, c), times(b, c)); !same(g, c) {
			t.Errorf("of %d bits: %s, not %s", bits, text(g), text(c))
		}
		a, b = m.long(65, bits), m.long(65, bits)
		want(t, said("Gcd", a, b), zgcd.Gcd(a, b), poly(1)) // as it is with nearly all
	}
}

// x^m - 1 and x^n - 1 have x^g - 1 in common, g being what m and n have; no limit is set to degrees.
func TestGcdOfCircles(t *testing.T) {
	circle := func(n int) []api.Int { return plusTimes(power(n), -1, poly(1)) }
	for _, c := range [][3]int{{12, 18, 6}, {64, 48, 16}, {65, 64, 1}, {1000, 350, 50}, {3000, 3000, 3000}, {701, 2, 1}} {
		want(t, "Gcd of circles", zgcd.Gcd(circle(c[0]), circle(c[1])), circle(c[2]))
	}
	want(t, "a power of x", zgcd.Gcd(power(2000), times(power(700), poly(6, 4))), power(700))
	want(t, "none", zgcd.Gcd(power(900), poly(1, 3)), poly(1))
}
