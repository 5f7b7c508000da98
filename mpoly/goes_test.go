package mpoly_test

import (
	"fmt"
	"math/big"
	"testing"

	"cleaver/api"
	"cleaver/mpoly"
)

// What is asked by rests alone tells the same as a division, be the quotient long or not.
func TestGoesInto(t *testing.T) {
	check := func(n int, a, b []api.Term) {
		if len(norm(n, a)) == 0 || len(norm(n, b)) == 0 {
			return
		}
		if _, exact := quotient(n, a, b); mpoly.GoesInto(b, a) != exact {
			t.Fatalf("%s: not %v", said("GoesInto", n, b, a), exact)
		}
	}
	for _, a := range all(2, 1, 2) {
		for _, b := range all(2, 1, 1) {
			check(2, a, b)
		}
	}
	for _, a := range all(1, 3, 2) {
		for _, b := range all(1, 2, 2) {
			check(1, a, b)
		}
	}
	m := newMaker(8)
	for range 300 {
		n := m.IntN(4)
		a, b, c := m.some(n, 4, 2), m.some(n, 4, 2), m.some(n, 2, 1)
		check(n, a, b)
		check(n, times(n, a, b), b)
		check(n, plusTimes(n, times(n, a, b), 1, c), b)
		check(n, times(n, a, c), times(n, b, c))
	}
}

// cornered is the product of all variables' powers less 1, and the product of all variables less 1, which goes into it.
func cornered(n, high int) (a, b []api.Term) {
	a, b = poly(n, "1"), poly(n, "1")
	for i := range n {
		a = times(n, a, poly(n, fmt.Sprintf("%c%d -1", letters[i], high)))
		b = times(n, b, poly(n, fmt.Sprintf("%c -1", letters[i])))
	}
	return a, b
}

// A number that is left is 0 by all primes that divide it. So many primes can't be multiplied that no try is left.
func TestNumberLeftThatManyTriesDoNotSee(t *testing.T) {
	primes, _ := mpoly.Tries(4000)
	for _, count := range []int{1, 3, 40, 500, 4000} {
		left := big.NewInt(-1)
		for _, p := range primes[:count] {
			left.Mul(left, new(big.Int).SetUint64(p))
		}
		for _, c := range []struct{ n, high int }{{2, 65}, {2, 1000}, {3, 17}, {6, 5}, {6, 1000}} {
			a, b := cornered(c.n, c.high)
			a = plusTimes(c.n, a, 1, []api.Term{{C: of(left), E: make([]int, c.n)}})
			z, e := mpoly.Div(c.n, a, b)
			refuse(t, fmt.Sprintf("Div, of %d variables to the power of %d, the first %d primes left", c.n, c.high, count), z, e, api.ErrExact)
		}
	}
}

// What is left may be 0 at the numbers in the variables' places instead, by their primes: so are x - X and y - Y, with X and Y that have
// just these rests, or the rest 1, where b is nought.
func TestTermsLeftThatManyTriesDoNotSee(t *testing.T) {
	primes, places := mpoly.Tries(600)
	for _, count := range []int{1, 3, 40, 600} {
		ofX, ofY, ofOne := make([]uint64, count), make([]uint64, count), make([]uint64, count)
		for k := range count {
			ofX[k], ofY[k], ofOne[k] = places[k][0], places[k][1], 1
		}
		for _, rests := range [][2][]uint64{{ofX, ofY}, {ofOne, ofY}, {ofX, ofOne}, {ofOne, ofOne}} {
			lessX, lessY := poly(2, "x -1"), poly(2, "y -1")
			lessX[1].C, lessY[1].C = having(primes, rests[0]), having(primes, rests[1])
			a, b := cornered(2, 65)
			z, e := mpoly.Div(2, plusTimes(2, a, 1, times(2, lessX, lessY)), b)
			refuse(t, fmt.Sprintf("Div, (x - X)(y - Y) left, 0 at the first %d places", count), z, e, api.ErrExact)
		}
	}
}

// Where a try takes all of a polynomial, or its first coefficient, for 0, what goes into a product goes into it all the same.
func TestGoesIntoWhereTriesSee0(t *testing.T) {
	primes, places := mpoly.Tries(3)
	for k, p := range primes {
		for i, other := range []string{"y", "x"} {
			less := poly(2, letters[1-i:2-i]+" -1")
			less[1].C = having([]uint64{p}, []uint64{places[k][1-i]})
			for _, b := range [][]api.Term{
				less,
				times(2, less, poly(2, other+"2 -3")),
				plusTimes(2, times(2, less, poly(2, "x3y3")), 1, poly(2, "xy +2x -3y -1")),
				plusTimes(2, times(2, less, poly(2, "x2y2")), 1, poly(2, "7")),
			} {
				for _, c := range [][]api.Term{poly(2, "1"), poly(2, "x2 +3xy -7"), less, b} {
					if !mpoly.GoesInto(b, times(2, b, c)) {
						t.Errorf("%s: not true", said("GoesInto", 2, b, times(2, b, c)))
					}
				}
			}
		}
	}
}

// having is a number below -1 that has the opposite of some rests by the first primes.
func having(primes, rests []uint64) api.Int {
	z, product := new(big.Int), big.NewInt(1)
	for k, r := range rests {
		p, off := new(big.Int).SetUint64(primes[k]), new(big.Int).SetUint64(r)
		off.Sub(off, z).Mul(off, new(big.Int).ModInverse(product, p)).Mod(off, p)
		z.Add(z, off.Mul(off, product))
		product.Mul(product, p)
	}
	return of(z.Neg(z.Add(z, product)))
}

// The primes are ones, all unlike each other, and the numbers in the variables' places are below them, and unlike each other.
func TestTries(t *testing.T) {
	seen := map[uint64]int{}
	primes, places := mpoly.Tries(2000)
	for k, p := range primes {
		seen[p]++
		if !new(big.Int).SetUint64(p).ProbablyPrime(10) || p>>62 != 1 {
			t.Fatalf("%d is no prime from 2^62 to 2^63", p)
		}
		for _, x := range places[k] {
			seen[x]++
			if x >= p {
				t.Fatalf("%d is in a variable's place by %d", x, p)
			}
		}
	}
	if len(seen) != 7*len(primes) {
		t.Errorf("of %d numbers some are the same", 7*len(primes))
	}
}
