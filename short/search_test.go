package short_test

import (
	"iter"
	"math/big"
	"slices"
	"testing"

	"cleaver/api"
	"cleaver/ffac"
	"cleaver/short"
)

// P15.3: what Find goes by, each by itself: a search that is not proven to tell all, and what is.

// searched calls f with many primitive products, a prime by which each may be parted, and how many powers more than needed
// are to be taken.
func searched(f func(c product, p, more int)) {
	m := newMaker(5)
	for range 100 {
		c := m.product(1+m.IntN(4), 28, 4+m.IntN(6))
		c = put(1, c.factors...)
		f(c, m.prime(c, 400), m.IntN(9))
	}
	for s := -3; s <= 3; s++ { // symmetries
		for _, c := range []product{put(1, shifted(climber(2, 3), s)), put(1, shifted(climber(2, 3), s), shifted(circle(8), -s-9)), put(1, shifted(circle(7), s), shifted(poly(-2, 0, 3), s)), put(1, shifted(climber(2, 3, 5), s))} {
			for _, p := range []int{17, 71, 113, 65521} {
				if c.isGood(p) {
					f(c, p, 0)
				}
			}
		}
	}
}

// What is proven tells all by itself, by the power that is needed, and by higher ones.
func TestSurely(t *testing.T) {
	searched(func(c product, p, more int) {
		locals := c.locals(p)
		k := c.highest(p, locals)
		for i, h := range c.lifted(p, k+more, locals) {
			if z := short.Surely(c.a, h, p, k+more); !same(z, locals[i].owner) {
				t.Fatalf("%s, %s, %d, %d: %s", text(c.a), text(h), p, k+more, text(z))
			}
			own := needed(c.a, p, len(h)-1)
			if z := short.Surely(c.a, h, p, own); !same(z, locals[i].owner) {
				t.Fatalf("%s, %s, %d, %d: %s", text(c.a), text(h), p, own, text(z))
			}
		}
	})
}

// The search tells all, at none of the places where h alone is a factor, else at the first one, or, where there is a
// symmetry, at the second one.
func TestSearch(t *testing.T) {
	counts := make([]int, 3)
	searched(func(c product, p, more int) {
		locals := c.locals(p)
		for i, h := range c.lifted(p, 1+more, locals) {
			z, places, ok := short.Searched(c.a, h, p)
			if !ok || places > 2 || !same(z, locals[i].owner) {
				t.Fatalf("%s, %s, %d: %s, %d, %v", text(c.a), text(h), p, text(z), places, ok)
			}
			if len(h) == len(locals[i].owner) && places > 0 {
				t.Fatalf("%s, %s, %d: %d", text(c.a), text(h), p, places)
			}
			counts[places]++
		}
	})
	for places, n := range counts {
		if n == 0 {
			t.Errorf("it is never that %d places tell all", places)
		}
	}
}

// Of many local factors, where most rows are to be told apart.
func TestSearchOfManyFactors(t *testing.T) {
	for _, c := range []struct {
		c product
		p int
	}{
		{put(1, climber(2, 3, 5, 7, 11)), 19}, {put(1, climber(2, 3, 5, 7, 11)), 65521}, {put(1, circle(64)), 193}, {put(1, circle(31), circle(16), climber(2, 3), circle(3)), 5}, {put(1, climber(2, 3, 5, 7), shifted(climber(2, 3, 5, 7), 1)), 101},
		{put(1, circle(1), circle(2), circle(3), circle(4), circle(6), circle(9), circle(12), circle(18), circle(36)), 37}, {put(1, climber(2, 3, 5, 7, 11, 13)), 101}, {put(1, circle(105)), 13},
	} {
		if !c.c.isGood(c.p) {
			t.Fatal(text(c.c.a), c.p)
		}
		locals := c.c.locals(c.p)
		for _, place := range []int{0, len(locals) - 1} {
			h := poly(locals[place].f...)
			if z, places, ok := short.Searched(c.c.a, h, c.p); !ok || places > 1 || !same(z, locals[place].owner) {
				t.Fatalf("%s, %s, %d: %s, %d, %v", text(c.c.a), text(h), c.p, text(z), places, ok)
			}
		}
	}
}

// Where the search has no power that is high enough, it tells nothing.
func TestSearchWithoutPower(t *testing.T) {
	a := []api.Int{of(two(999)), small(1), of(two(999))}
	a[2].Abs[0] = 1
	if _, _, ok := short.Searched(a, poly(0, 1), 2); ok {
		t.Error("by so low a power nothing is told")
	}
}

// flat is a polynomial of degree 9 whose derivative is 0 at all places that are gone to, and only there.
func flat() []api.Int {
	slope := poly(2520) // so that it is one of integers
	for n := 2; n <= 9; n++ {
		slope = times(slope, poly(-n, 1))
	}
	z := noughts(10)
	for i, v := range values(slope) {
		z[i+1].Quo(v, big.NewInt(int64(i+1)))
	}
	return plain(z)
}

// The square of a flat one less 3 is, by a prime by which 3 is a square, a product of two that no place tells from factors.
// Then what is proven goes on alone.
func TestFindWhereNoPlaceTells(t *testing.T) {
	square := plus(times(flat(), flat()), big.NewInt(-3), poly(1))
	isProven := false
	for p := 5; p < 5000 && !isProven; p++ {
		if isPrime(p) && len(intsBy(square, p)) == len(square) {
			isProven, _ = ffac.Irreducible(intsBy(square, p), p)
		}
	}
	if !isProven {
		t.Fatal("no prime tells that it is irreducible")
	}
	for _, c := range []product{put(1, square), put(1, square, poly(1, 2))} {
		for p, primes := 11, 0; primes < 3; p++ {
			if !isPrime(p) || p%12 != 1 && p%12 != 11 || !c.isGood(p) { // by other primes 3 is no square
				continue
			}
			primes++
			locals := c.locals(p)
			k := c.highest(p, locals)
			for i, h := range c.lifted(p, k, locals) {
				_, places, ok := short.Searched(c.a, h, p)
				if isLine := len(locals[i].owner) == 2; ok != isLine || !ok && places != 8 {
					t.Errorf("%s, %d: %d, %v", text(h), p, places, ok)
				}
				if i == 0 || i == len(locals)-1 {
					wantFind(t, c.a, h, p, k, locals[i].owner)
				}
			}
		}
	}
}

// The rows that are told: the upper bits of the power, then for each of the others those of its share, less than the power's,
// and a 1 at its own place.
func TestRows(t *testing.T) {
	c := put(1, climber(2, 3, 5))
	locals := c.locals(65521)
	row := 0
	for r := range short.Rows(c.a, poly(locals[0].f...), 65521) {
		unit := make([]api.Int, len(locals))
		if row > 0 {
			unit[row] = small(1)
		}
		unit[0] = r[0]
		if !same(r, unit) || row == 0 && len(r[0].Abs) < 2 {
			t.Fatal(row, text(r))
		}
		row++
	}
	if row != len(locals) || row != 8 {
		t.Fatal(row)
	}
}

// Of polynomials of 5 numbers that x^2 + 3 x + 2 divides by 25.
func TestMultiples(t *testing.T) {
	wanted := [][]api.Int{poly(25, 0, 0, 0, 0), poly(0, 25, 0, 0, 0), poly(2, 3, 1, 0, 0), poly(0, 2, 3, 1, 0), poly(0, 0, 2, 3, 1)}
	if got := slices.Collect(short.Multiples(poly(2, 3, 1), small(25), 5)); !slices.EqualFunc(got, wanted, same) {
		t.Error(got)
	}
	if got := slices.Collect(short.Multiples(poly(2, 3, 1), small(25), 2)); !slices.EqualFunc(got, [][]api.Int{poly(25, 0), poly(0, 25)}, same) {
		t.Error(got)
	}
}

// Who goes through the rows may leave at any of them.
func TestRowsThatAreLeft(t *testing.T) {
	c := put(1, climber(2, 3, 5))
	h := poly(c.locals(65521)[0].f...)
	for end := 1; end <= 8; end++ {
		for _, rows := range []iter.Seq[[]api.Int]{short.Rows(c.a, h, 65521), short.Multiples(h, small(65521), 8)} {
			n := 0
			for range rows {
				if n++; n == end {
					break
				}
			}
			if n != end {
				t.Error(n, end)
			}
		}
	}
}
