package mgcd_test

import (
	"math"
	"math/big"
	"slices"
	"testing"

	"cleaver/api"
	"cleaver/mgcd"
)

// However many of the draws, which are known, polynomials are thought out to mislead: none of them turns an answer.

// having is the least number from 0 on that has some rests by some primes.
func having(primes, rests []uint64) *big.Int {
	z, product := new(big.Int), big.NewInt(1)
	for k, r := range rests {
		p, off := new(big.Int).SetUint64(primes[k]), new(big.Int).SetUint64(r)
		off.Sub(off, z).Mul(off, new(big.Int).ModInverse(product, p)).Mod(off, p)
		z.Add(z, off.Mul(off, product))
		product.Mul(product, p)
	}
	return z
}

// misled calls f with the first draws' primes, the first that make sure, and both.
func misled(first, sure int, f func(primes []uint64, points [][api.MaxVars]uint64)) {
	p, at := mgcd.Drawn(first)
	f(p, at)
	others, there := mgcd.DrawnToBeSure(sure)
	f(others, there)
	f(append(p, others...), append(at, there...))
}

// holdsOf fails, unless a and b, two that are irreducible and not the same, have nothing in common.
func holdsOf(t *testing.T, n int, a, b, g []api.Term) {
	t.Helper()
	both := times(n, a, b)
	is(t, n, both, true)
	is(t, n, times(n, a, both), false)
	gcd(t, n, a, b, unit(n))
	gcd(t, n, times(n, a, g), times(n, b, g), g)
	gcd(t, n, times(n, a, both), times(n, b, both), both)
	radical(t, n, both, both)
	radical(t, n, times(n, b, both), both)
}

// Two that are the same by many primes, which take away what lies between the corners of one, or a corner.
func TestManyPrimesThatSeeMore(t *testing.T) {
	a, g := poly(2, "x2 +y +3"), poly(2, "x2 +xy -2y +7")
	for _, count := range []int{1, 2, 3, 4, 5, 6, 12, 13, 40, 200} {
		misled(count, count, func(primes []uint64, _ [][api.MaxVars]uint64) {
			for _, more := range []string{"x", "xy2 -x -1"} {
				holdsOf(t, 2, a, plusOften(2, a, whole(primes...), poly(2, more)), g)
			}
		})
	}
}

// Two that look the same, or like squares, with many numbers in the variables' places.
func TestManyPointsThatSeeMore(t *testing.T) {
	for _, count := range []int{1, 2, 3, 4, 5, 6, 12, 13, 40, 200} {
		misled(count, count, func(primes []uint64, points [][api.MaxVars]uint64) {
			x, y := make([]uint64, len(points)), make([]uint64, len(points))
			for k, at := range points {
				x[k], y[k] = at[0], at[1]
			}
			lessX := plusOften(2, poly(2, "x"), having(primes, x), poly(2, "-1"))
			lessY := plusOften(2, poly(2, "y"), having(primes, y), poly(2, "-1"))
			holdsOf(t, 2, plusTimes(2, poly(2, "x2 +2x +1"), 1, lessY), plusTimes(2, poly(2, "y2 +2y +1"), 1, lessX), poly(2, "x2 +xy -2y +7"))
			holdsOf(t, 2, plusTimes(2, poly(2, "x +1"), 1, lessY), poly(2, "x +1"), poly(2, "xy -x +7"))
		})
	}
}

// Primes by which what is sought has more terms than may be.
func TestPrimesThatSeeTooManyTerms(t *testing.T) {
	g, a, b := poly(3, "x +y +z"), unit(3), unit(3)
	for i := range 3 {
		a = product(3, a, less(3, i, 930))
		b = product(3, b, less(3, i, 30), less(3, i, 31))
	}
	a = product(3, a, g)
	first, _ := mgcd.Drawn(4)
	sure, _ := mgcd.DrawnToBeSure(600)
	for _, p := range [][]uint64{first[3:], first, append(first, sure[:12]...), append(first, sure...)} {
		gcd(t, 3, a, product(3, plusOften(3, b, whole(p...), poly(3, "x2 +y -z")), g), g)
		c := plusOften(3, b, whole(p...), poly(3, "xyz +x -1"))
		radical(t, 3, c, c)
		is(t, 3, c, true)
	}
}

// What looks tell wrongly is not taken for sure, though far more than any fixed number of them do.
func TestIsSure(t *testing.T) {
	sure, points := mgcd.DrawnToBeSure(1500)
	for _, count := range []int{1, 12, 13, 100, 1500} {
		p, y := whole(sure[:count]...), make([]uint64, count)
		for k := range count {
			y[k] = points[k][1]
		}
		lessY := plusOften(2, poly(2, "y"), having(sure, y), poly(2, "-1"))
		for _, off := range [][]api.Term{plusOften(2, nil, p, poly(2, "y")), plusOften(2, nil, p, poly(2, "xy -1")), lessY} {
			one, square := poly(2, "x +1"), poly(2, "x2 +2x +1")
			a, b := plusTimes(2, one, 1, off), plusTimes(2, square, 1, off)
			if mgcd.IsSure(2, 0, 1, a, one) || mgcd.IsSure(2, 0, 1, one, a) || mgcd.IsSure(2, 0, 2, times(2, a, one), square) || mgcd.IsSure(2, 0, 1, b) {
				t.Errorf("%d looks make a wrong degree sure", count)
			}
			if !mgcd.IsSure(2, 0, 0, a, one) || !mgcd.IsSure(2, 0, 1, times(2, a, one), square) || !mgcd.IsSure(2, 0, 2, b) {
				t.Errorf("%d looks do not make a right degree sure", count)
			}
		}
	}
}

// All looks together tell more than it takes to say the sides.
func TestLooksTellMoreThanTheSides(t *testing.T) {
	check := func(n int, sides ...[]api.Term) {
		for i := range n {
			bits, longest, rows, high := 300.0, 0.0, 0.0, 0.0
			for _, side := range sides {
				each, degree := 0.0, 0.0
				for _, d := range degreesOf(side) {
					each, degree = each+math.Log2(float64(d+1)), degree+float64(d)
				}
				sum := new(big.Int)
				for _, u := range side {
					bits += each + float64(value(u.C).BitLen()) + 1
					sum.Add(sum, new(big.Int).Abs(value(u.C)))
				}
				longest, high = max(longest, float64(sum.BitLen())), max(high, degree)
				low := degreesOf(side)[i]
				for _, u := range side {
					low = min(low, u.E[i])
				}
				rows += float64(degreesOf(side)[i] - low)
			}
			if len(sides) == 1 {
				longest += math.Log2(rows + 1) // the derivative's numbers
				rows *= 2
			}
			count, telling := mgcd.Looks(n, i, sides...)
			if float64(count*telling) < bits {
				t.Fatalf("%d looks of %d bits each: %s", count, telling, said("", n, i, sides))
			}
			if chance := rows*longest/62*math.Exp2(-56) + rows*high*math.Exp2(-62); telling > 1 && math.Exp2(-float64(telling)) < chance {
				t.Fatalf("a look of %d bits: %s", telling, said("", n, i, sides))
			}
		}
	}
	pairs(func(n int, a, b []api.Term) {
		if a, b = norm(n, a), norm(n, b); len(a) > 0 && len(b) > 0 {
			check(n, a)
			check(n, a, b)
		}
	})
	m := newMaker(31)
	for _, high := range []int{1, 63, 64, 1000} {
		a, b := m.sparse(6, 300, high, 1<<40), m.sparse(6, 50, high, 9)
		for k := range b {
			b[k].C = m.long(1 + k)
		}
		check(6, a)
		check(6, a, b)
		check(6, b)
	}
}

// The primes are ones, all unlike each other, and so are the numbers in the variables' places, which are below them and not 0.
func TestDraws(t *testing.T) {
	seen := map[uint64]int{}
	check := func(primes []uint64, points [][api.MaxVars]uint64) {
		for k, p := range primes {
			seen[p]++
			if !new(big.Int).SetUint64(p).ProbablyPrime(10) || p>>62 != 1 {
				t.Fatalf("%d is no prime from 2^62 to 2^63", p)
			}
			for _, x := range points[k] {
				seen[x]++
				if x >= p || x == 0 {
					t.Fatalf("%d is in a variable's place by %d", x, p)
				}
			}
		}
	}
	check(mgcd.Drawn(1000))
	check(mgcd.DrawnToBeSure(1000))
	if len(seen) != 7*2000 {
		t.Errorf("%d numbers of %d are unlike", len(seen), 7*2000)
	}
}

// What is taken for the Radical, or the Gcd, by looks that are all wrong, is not proved.
func TestIsProved(t *testing.T) {
	a, b, c := poly(2, "x2 +y +3"), poly(2, "xy2 -x -1"), poly(2, "x2 +xy -2y +7")
	for _, z := range [][]api.Term{unit(2), a, b, times(2, a, a), times(2, a, c), c} {
		if mgcd.IsProved(2, 0, z, times(2, a, a, b)) {
			t.Errorf("the Radical of a^2 b, %s: proved", text(z))
		}
		if mgcd.IsProved(2, 0, times(2, z, c), times(2, a, a, b), times(2, z, b)) {
			t.Errorf("the Gcd of a^2 b and b times %s, c times that: proved", text(z))
		}
	}
	if mgcd.IsProved(2, 1, nil, a) || mgcd.IsProved(2, 0, nil, a) || mgcd.IsProved(2, 1, nil, a, b) || mgcd.IsProved(2, 0, nil, a, b) {
		t.Error("nought: proved")
	}
	for farther := -2; farther <= 2; farther++ {
		ofOne := mgcd.IsProved(2, farther, times(2, a, b), times(2, a, a, b))
		ofBoth := mgcd.IsProved(2, farther, times(2, a, c), times(2, a, c, b), times(2, a, c, c))
		if ofOne != (farther == 0) || ofBoth != (farther == 0) {
			t.Errorf("what is sought, where looks reach %d farther: %v, %v", farther, ofOne, ofBoth)
		}
	}
	// what is left is too long to be asked
	for _, k := range []int{1, 5, 13} {
		z, side := unit(2), unit(2)
		for i := range 2 {
			z, side = product(2, z, less(2, i, k)), product(2, side, less(2, i, 975))
		}
		if mgcd.IsProved(2, 0, z, side) {
			t.Errorf("the Radical of (x^975 - 1)(y^975 - 1), %s: proved", text(z))
		}
	}
}

// No two terms are taken as often, so that just what has one term divides what is derived of it.
func TestDerived(t *testing.T) {
	m := newMaker(32)
	for n := 1; n <= api.MaxVars; n++ {
		for _, a := range [][]api.Term{m.sparse(n, 200, 1000, 1), m.sparse(n, 200, 3, 1), m.dense(n, 2, 1)} {
			often := map[string]int{}
			z := mgcd.Derived(n, a)
			for k, u := range z {
				c := value(a[k].C)
				often[new(big.Int).Quo(value(u.C), c).String()]++
				if !sameInt(of(new(big.Int).Mul(new(big.Int).Quo(value(u.C), c), c)), u.C) {
					t.Fatalf("%s is no multiple of %s", text(z[k:k+1]), text(a[k:k+1]))
				}
			}
			count := len(a)
			if !slices.ContainsFunc(a[len(a)-1].E, func(e int) bool { return e > 0 }) {
				count-- // a number is taken 0 times
			}
			if len(often) != count || len(z) != count {
				t.Fatalf("%d variables: %d of %d terms are taken unlike often", n, len(often), count)
			}
		}
	}
}
