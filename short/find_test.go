package short_test

import (
	"math/big"
	"slices"
	"testing"

	"cleaver/api"
	"cleaver/ffac"
	"cleaver/short"
)

// P15.3

func TestFindOfSome(t *testing.T) {
	eighth := binomial(4, 1)
	for _, c := range []struct {
		a, h   []api.Int
		p, k   int
		factor []api.Int
	}{
		{poly(0, 1), poly(0, 1), 2, 1, poly(0, 1)}, {poly(1, 1), poly(1, 1), 2, 1, poly(1, 1)}, {poly(-1, 1), poly(6, 1), 7, 1, poly(-1, 1)}, {poly(-1, 1), poly(48, 1), 7, 2, poly(-1, 1)},
		{poly(1, 2), poly(3, 1), 5, 1, poly(1, 2)}, {poly(-3, -6), poly(3, 1), 5, 1, poly(1, 2)}, {poly(3, 6), poly(63, 1), 5, 3, poly(1, 2)}, // 2 times 63 is 126, which is 1 by 125
		{poly(-1, 0, 1), poly(1, 1), 11, 2, poly(1, 1)}, {poly(-1, 0, 1), poly(120, 1), 11, 2, poly(-1, 1)}, {poly(-6, 0, 6), poly(120, 1), 11, 2, poly(-1, 1)}, {poly(6, 0, -6), poly(1, 1), 11, 2, poly(1, 1)},
		{poly(1, 0, 1), poly(182, 1), 5, 4, poly(1, 0, 1)}, {poly(1, 0, 1), poly(443, 1), 5, 4, poly(1, 0, 1)}, {poly(1, 0, 1), poly(1, 0, 1), 3, 2, poly(1, 0, 1)}, {poly(1, 0, 1), poly(1, 0, 1), 7, 1, poly(1, 0, 1)},
		{poly(4, 1, 0, 0), poly(1, 1), 3, 3, nil}, {poly(-1, -1, 6), poly(1, 3), 5, 3, nil},
		{eighth, binomial(2, 4), 17, 3, nil}, // 4 times 4 is not 1 below 0 by a power of 17 but the first
	} {
		if c.factor == nil {
			wantNoFind(t, c.a, c.h, c.p, c.k, api.ErrArg)
		} else {
			wantFind(t, c.a, c.h, c.p, c.k, c.factor)
		}
	}
}

// Each of the four that x^4 + 1 has by 17 belongs to all of it; 2 to the power of 4 is 1 less than 17.
func TestFindOfTheEighthCircle(t *testing.T) {
	c := put(1, binomial(4, 1))
	for k := 5; k < 40; k++ {
		locals := c.locals(17)
		if len(locals) != 4 || !slices.Equal(locals[0].f, []int{2, 1}) {
			t.Fatal(locals)
		}
		for _, h := range c.lifted(17, k, locals) {
			wantFind(t, c.a, h, 17, k, c.a)
		}
	}
	for p := 3; p < 200; p += 2 {
		if c.checkFinds(t, p, 0); isPrime(p) && len(c.locals(p)) < 2 {
			t.Fatal("by", p)
		}
	}
}

// lowOnes are all primitive irreducible polynomials of degree 1 and 2 that divide one whose numbers are from -2 to 2: the
// last number divides its last one, the first one, but for x, the lowest that is not 0, and no root is as great as 3.
func lowOnes() [][]int {
	lines, low := [][]int{{0, 1}}, [][]int{{0, 1}}
	ends := []int{-2, -1, 1, 2}
	for _, last := range []int{1, 2} {
		for _, first := range ends {
			if last == 1 || first%2 != 0 {
				lines, low = append(lines, []int{first, last}), append(low, []int{first, last})
			}
		}
	}
	for _, last := range []int{1, 2} {
		for middle := -11; middle <= 11; middle++ {
			for _, first := range ends {
				a := []int{first, middle, last}
				if (last == 1 || first%2 != 0 || middle%2 != 0) && !slices.ContainsFunc(lines, func(l []int) bool { _, ok := goes(a, l); return ok }) {
					low = append(low, a)
				}
			}
		}
	}
	return low
}

// goes divides by a polynomial without noughts at the end; it tells whether that goes without a rest.
func goes(a, b []int) ([]int, bool) {
	left := slices.Clone(a)
	quotient := make([]int, max(0, len(left)-len(b)+1))
	for at := len(quotient) - 1; at >= 0; at-- {
		if left[at+len(b)-1]%b[len(b)-1] != 0 {
			return nil, false
		}
		quotient[at] = left[at+len(b)-1] / b[len(b)-1]
		for i, c := range b {
			left[at+i] -= quotient[at] * c
		}
	}
	return quotient, len(trim(left)) == 0
}

// byTrial are the factors of a small polynomial of a degree up to 5 that has none twice: what none of those low ones divides
// is irreducible, or a number.
func byTrial(a []int, low [][]int) product {
	c := product{a: poly(a...)}
	a = trim(a)
	for _, f := range low {
		if rest, ok := goes(a, f); ok {
			a = rest
			c.factors = append(c.factors, poly(f...))
		}
	}
	if len(a) > 1 {
		by := new(big.Int)
		for _, n := range a {
			by.GCD(nil, nil, by, big.NewInt(int64(max(n, -n))))
		}
		if a[len(a)-1] < 0 {
			by.Neg(by)
		}
		rest, _ := goes(a, []int{int(by.Int64())})
		c.factors = append(c.factors, poly(rest...))
	}
	return c
}

// Small polynomials, whose factors are found by trial, and all local factors by some primes.
func TestFindOfSmallOnes(t *testing.T) {
	low := lowOnes()
	for i, a := range all(5, 2) {
		if len(trim(a)) > 1 {
			c := byTrial(a, low)
			for j, p := range []int{2, 3, 5, 7, 11, 13, 17, 65521} {
				if (i+j)%3 == 0 {
					c.checkFinds(t, p, i%3)
				}
			}
		}
	}
	for i, a := range all(6, 1) {
		if len(trim(a)) == 6 {
			byTrial(a, low).checkFinds(t, []int{3, 5, 7, 11}[i%4], 0)
		}
	}
}

// Products of known factors, in any form and by any prime, and any power that is high enough.
func TestFind(t *testing.T) {
	m := newMaker(3)
	for i := range 150 {
		c := m.product(1+m.IntN(4), 28, 4+m.IntN(12))
		c.a = m.unplain(c.a)
		c.checkFinds(t, m.prime(c, []int{20, 300, api.MaxPrime + 1}[i%3]), m.IntN(30))
	}
}

// Numbers of many bits, and factors that have the greater ones but for the last one.
func TestFindOfGreatOnes(t *testing.T) {
	m := newMaker(4)
	for range 40 {
		var factors [][]api.Int
		for n := range 3 {
			f := make([]*big.Int, 2+n)
			for i := range f { // 2 divides all but the last one, 4 not the first one (Eisenstein)
				f[i] = new(big.Int).SetUint64(m.Uint64()>>m.IntN(60) | 1)
				f[i].Lsh(f[i], 1)
			}
			f[len(f)-1].Sub(f[len(f)-1], big.NewInt(1))
			if shared := new(big.Int).GCD(nil, nil, f[0], f[len(f)-1]); shared.IsInt64() && shared.Int64() == 1 {
				factors = append(factors, plain(f))
			}
		}
		if len(factors) > 0 {
			c := put(-3, factors...)
			c.checkFinds(t, m.prime(c, api.MaxPrime+1), 0)
			c.checkFinds(t, m.prime(c, 5000), 1)
		}
	}
}

// By a prime that leaves the rest 1 by n all factors of x^n - 1 are of degree 1, of whatever degree those are that they
// belong to.
func TestFindOfCircles(t *testing.T) {
	for _, c := range []struct{ n, p int }{{1, 2}, {2, 3}, {3, 7}, {4, 5}, {5, 11}, {6, 7}, {8, 17}, {9, 19}, {10, 11}, {12, 13}, {15, 31}, {16, 17}, {18, 37}, {20, 41}} {
		var factors [][]api.Int
		for d := 1; d <= c.n; d++ {
			if c.n%d == 0 {
				factors = append(factors, circle(d))
			}
		}
		whole := put(1, factors...)
		if !same(whole.a, binomial(c.n, -1)) || len(whole.locals(c.p)) != c.n {
			t.Fatal(text(whole.a))
		}
		whole.checkFinds(t, c.p, 0)
		for _, p := range []int{2, 3, 5, 7, 101} {
			whole.checkFinds(t, p, 0)
		}
	}
}

// Irreducible ones that have many factors by each prime: some or all of degree 1, or 2.
func TestFindOfClimbers(t *testing.T) {
	for _, c := range []product{put(1, climber(2, 3)), put(1, climber(2, 3, 5)), put(1, climber(3, 5, 7)), put(5, climber(2, 3, 5, 7)), put(1, climber(2, 3), climber(2, 5), climber(3, 5), climber(2, 3, 5))} {
		for _, p := range []int{11, 13, 71, 241, 311, 65521} {
			c.checkFinds(t, p, 0)
		}
	}
}

// Where a is symmetric about a place, all that is told there is that factors come in pairs.
func TestFindWithSymmetries(t *testing.T) {
	for s := -4; s <= 4; s++ {
		for _, f := range []product{
			put(1, shifted(climber(2, 3, 5), s)), put(1, shifted(binomial(8, 1), s)), put(2, shifted(circle(12), s), shifted(circle(5), s), shifted(poly(-2, 0, 3), s)), put(1, shifted(circle(7), s), shifted(circle(9), s)),
			put(1, shifted(climber(2, 3), s), shifted(climber(2, 3), s+1)), put(1, shifted(circle(8), s), shifted(circle(8), -s-10)),
		} {
			for _, p := range []int{17, 41, 113, 4093} {
				f.checkFinds(t, p, 0)
			}
		}
	}
}

// Roots at all places that are gone to first, beside factors that need them.
func TestFindWithRootsAtPlaces(t *testing.T) {
	factors := [][]api.Int{climber(2, 3), circle(7)}
	for n := 2; n <= 12; n++ {
		factors = append(factors, poly(-n, 1))
	}
	c := put(1, factors...)
	c.checkFinds(t, 43, 0)
	c.checkFinds(t, 1009, 0)
}

// one is a local factor of an irreducible polynomial by p, of which it is known that it is one, at some place of them all.
func one(t *testing.T, c product, p, more, place int) {
	t.Helper()
	locals := c.locals(p)
	place %= len(locals)
	k := needed(c.a, p, len(locals[place].f)-1) + more
	wantFind(t, c.a, c.lifted(p, k, locals)[place], p, k, locals[place].owner)
}

// Of the highest degree: in factors of few, of many, and of all degrees.
func TestFindOfTheHighestDegree(t *testing.T) {
	var lines [][]api.Int
	for n := range 8 {
		lines = append(lines, poly(n-3, 1))
	}
	for _, c := range []product{put(1, binomial(64, 1)), put(-7, circle(17), circle(64), circle(32)), put(1, append(lines, circle(29), circle(36), circle(3))...), put(3, binomial(60, -2), climber(2, 3)), put(1, climber(2, 3, 5), circle(51), circle(16), circle(40))} {
		if len(c.a)-1 > 64 {
			t.Fatal(len(c.a) - 1)
		}
		for _, p := range []int{97, 101, 65521} {
			if c.isGood(p) && c.highest(p, c.locals(p)) <= 900 {
				one(t, c, p, 0, 0)
				one(t, c, p, 100, 7)
			}
		}
	}
	one(t, put(1, binomial(64, 1)), 257, 0, 63) // which has 64 factors of degree 1
}

// A factor by p that is all of a belongs to it, however many bits a has: by 2 and 3 x^n + x + 1 is irreducible for these n.
func TestFindOfAllOfIt(t *testing.T) {
	for _, n := range []int{1, 2, 3, 4, 6, 7, 9, 15, 22, 28, 30, 46, 60, 63} {
		for _, bits := range []int{1, 64, 1000, 7000} {
			a := plus(append(poly(1, 1), binomial(n, 0)[min(2, n+1):]...), two(bits), slices.Repeat(poly(1), n))
			if n == 1 {
				a = []api.Int{of(two(bits)), small(1)}
			}
			if is, _ := ffac.Irreducible(intsBy(a, 2), 2); !is {
				t.Fatal(n)
			}
			if k := needed(a, 2, n); k <= 1000 {
				c := put(1, a)
				wantFind(t, a, c.lifted(2, k, c.locals(2))[0], 2, k, a)
			}
		}
	}
}

// Of the highest degree, with numbers almost as long as the limit lets them be: no power that is allowed is as great as
// those that the factors of such a polynomial might have.
func TestFindOfAllOfAGreatOne(t *testing.T) {
	p := 65521
	for c := 1; ; c++ {
		a := plus(binomial(64, c), big.NewInt(1), poly(0, 1))
		if is, _ := ffac.Irreducible(intsBy(a, p), p); is {
			a = plus(a, new(big.Int).Lsh(big.NewInt(int64(p)), 7963), slices.Repeat(poly(1), 65))
			k := needed(a, p, 64)
			if k < 990 || k > 1000 {
				t.Fatal(k)
			}
			whole := put(1, a)
			wantFind(t, a, whole.lifted(p, k, whole.locals(p))[0], p, k, a)
			return
		}
	}
}

// What Find refuses.

// refusals is a product, and one of its local factors, which are let through.
func refusals(t *testing.T) (c product, h []api.Int, p, k int) {
	c = put(6, poly(1, 0, 1), poly(-2, 0, 0, 1), poly(3, 5))
	p = 13
	k = c.highest(p, c.locals(p))
	h = c.lifted(p, k, c.locals(p))[0]
	wantFind(t, c.a, h, p, k, poly(1, 0, 1))
	return c, h, p, k
}

// The power that is needed is asked for, of h's degree; a higher one is no matter.
func TestFindByAPowerTooLow(t *testing.T) {
	for _, c := range []product{put(1, binomial(4, 1)), put(-2, poly(1, 0, 1), poly(-2, 0, 0, 1)), put(1, poly(3, 5)), put(3, circle(15), poly(-7, 4))} {
		for _, p := range []int{2, 3, 7, 11, 17, 65521} {
			if !c.isGood(p) {
				continue
			}
			locals := c.locals(p)
			highest := c.highest(p, locals)
			for k := 1; k <= highest+2; k++ {
				for i, h := range c.lifted(p, k, locals) {
					if k < needed(c.a, p, len(h)-1) {
						wantNoFind(t, c.a, h, p, k, api.ErrArg)
					} else {
						wantFind(t, c.a, h, p, k, locals[i].owner)
					}
				}
			}
		}
	}
}

func TestFindByNoPower(t *testing.T) {
	c, h, p, k := refusals(t)
	for _, n := range []int{-1 << 63, -1, 0, 1001, 1002, 1<<63 - 1} {
		wantNoFind(t, c.a, h, p, n, api.ErrArg)
		wantNoFind(t, poly(1, 1), poly(1, 1), 2, n, api.ErrArg)
	}
	for _, n := range noPrimes() {
		wantNoFind(t, c.a, h, n, k, api.ErrArg)
		wantNoFind(t, poly(1, 1), poly(1, 1), n, 1, api.ErrArg)
		wantNoFind(t, poly(1, 1), poly(1, 1), n, 0, api.ErrArg)
	}
	wantFind(t, c.a, c.lifted(p, 1000, c.locals(p))[0], p, 1000, poly(1, 0, 1))
}

// a has squares in it, or by p it has, or p divides its last coefficient: then h is refused, though it divides.
func TestFindOfWhatMayNotBeParted(t *testing.T) {
	for _, c := range []struct {
		a []api.Int
		p int
	}{
		{times(poly(3, 1), poly(1, 1), poly(1, 1)), 13}, {times(poly(3, 1), poly(3, 1)), 13}, {times(poly(3, 1), poly(16, 1)), 13}, {times(poly(3, 1), poly(1, 1), poly(14, 1)), 13}, {times(poly(3, 1), poly(1, 0, 1), poly(1, 0, 1)), 13},
		{times(poly(3, 1), poly(1, 13)), 13}, {times(poly(3, 1), poly(13)), 13}, {times(poly(3, 1), poly(2, 5, 26)), 13}, {times(poly(3, 1), poly(-169)), 13},
	} {
		good := times(poly(3, 1), poly(5, 1))
		for k := range 40 {
			h := []api.Int{small(3), small(1)}
			wantNoFind(t, c.a, h, c.p, k, api.ErrArg)
			if k > 10 {
				wantFind(t, good, h, c.p, k, poly(3, 1))
			}
		}
	}
}

// h is not as it stands what hensel.Red tells of it, at each place, though it counts as the same.
func TestFindByWhatIsNotRed(t *testing.T) {
	for _, degree := range []int{2, 3} {
		c := put(1, climber(2, 3), binomial(degree, -2))
		p, k := 19, 40
		locals := c.locals(p)
		for i, h := range c.lifted(p, k, locals) {
			wantFind(t, c.a, h, p, k, locals[i].owner)
			modulus := powerOf(p, k)
			for at := range h {
				v := value(h[at])
				for _, other := range []api.Int{
					{Neg: true, Abs: h[at].Abs}, {Abs: append(slices.Clone(h[at].Abs), 0)}, {Abs: append(slices.Clone(h[at].Abs), 0, 0)}, of(new(big.Int).Add(v, modulus)), of(new(big.Int).Sub(v, modulus)), of(new(big.Int).Add(v, new(big.Int).Lsh(modulus, 200))),
				} {
					near := slices.Clone(h)
					near[at] = other
					wantNoFind(t, c.a, near, p, k, api.ErrArg)
				}
			}
			for _, end := range []api.Int{{}, {Neg: true}, {Abs: []uint64{0}}, of(modulus)} {
				wantNoFind(t, c.a, append(slices.Clone(h), end), p, k, api.ErrArg)
			}
		}
	}
}

// h is constant, nought, no factor, or one that is not as it must be.
func TestFindByNoFactor(t *testing.T) {
	c, h, p, k := refusals(t)
	modulus := powerOf(p, k)
	lower := powerOf(p, k-1)
	for _, other := range [][]api.Int{nil, {}, poly(0), poly(1), poly(2), poly(0, 0), poly(0, 1), poly(1, 1), poly(1, 0, 1), binomial(64, 1), binomial(200, 0), h[:1], h[1:]} {
		wantNoFind(t, c.a, other, p, k, api.ErrArg)
	}
	for at := range h[:len(h)-1] { // off by a number, by p, by the power below
		for _, n := range []*big.Int{big.NewInt(1), big.NewInt(int64(p)), lower} {
			off := slices.Clone(h)
			off[at] = of(new(big.Int).Mod(new(big.Int).Add(value(h[at]), n), modulus))
			wantNoFind(t, c.a, off, p, k, api.ErrArg)
		}
	}
	for _, n := range []int64{2, 3, int64(p) - 1, int64(p) + 1} { // so many times h; some of these divide, but are not monic
		scaled := values(h)
		for _, v := range scaled {
			v.Mul(v, big.NewInt(n)).Mod(v, modulus)
		}
		wantNoFind(t, c.a, plain(scaled), p, k, api.ErrArg)
	}
}

// All products of two local factors or more divide, too, but may be parted by p.
func TestFindByProducts(t *testing.T) {
	c, _, p, k := refusals(t)
	lifted := c.lifted(p, k, c.locals(p))
	modulus := powerOf(p, k)
	for set := range 1 << len(lifted) {
		var some [][]api.Int
		for i, f := range lifted {
			if set>>i&1 == 1 {
				some = append(some, f)
			}
		}
		joint := values(times(some...))
		for _, v := range joint {
			v.Mod(v, modulus)
		}
		if len(some) == 1 {
			if _, e := short.Find(c.a, plain(joint), p, k); e != api.OK {
				t.Error(e)
			}
		} else {
			wantNoFind(t, c.a, plain(joint), p, k, api.ErrArg)
		}
	}
}

// The limit that Need tells comes ahead of a power that is too low, and behind all else that is wrong.
func TestFindPastTheLimit(t *testing.T) {
	great := put(1, []api.Int{of(two(16100)), {}, {}, small(1)}, poly(0, 1))
	for _, p := range []int{5, 7, 65521} {
		if !great.isGood(p) {
			t.Fatal(p)
		}
		locals := great.locals(p)
		for _, k := range []int{1, 2, 30, 1000} {
			for i, h := range great.lifted(p, k, locals) {
				if needed(great.a, p, len(h)-1) <= 1000 {
					t.Fatal(p, i)
				}
				wantNoFind(t, great.a, h, p, k, api.ErrLimit)
				wantNoFind(t, great.a, append(slices.Clone(h[:len(h)-1]), small(2)), p, k, api.ErrArg)
				wantNoFind(t, great.a, append([]api.Int{{}}, h...), p, k, api.ErrArg)
				wantNoFind(t, great.a, append(h, api.Int{}), p, k, api.ErrArg)
				wantNoFind(t, great.a, h, p, 0, api.ErrArg)
				wantNoFind(t, great.a, h, p+1, k, api.ErrArg)
			}
		}
	}
	high := put(1, circle(1), circle(2), circle(4), circle(8), circle(16), circle(32), circle(64)) // x^64 - 1
	locals := high.locals(17)
	for i, h := range high.lifted(17, 800, locals) {
		switch len(h) - 1 {
		case 1: // by 17 too little is told of so high a degree
			wantNoFind(t, high.a, h, 17, 800, api.ErrLimit)
		case 4:
			if i%4 == 0 {
				wantFind(t, high.a, h, 17, 800, locals[i].owner)
			}
		}
	}
}

func TestFindOfNoughtAndLongOnes(t *testing.T) {
	for _, p := range []int{0, 4, 17, 65537} {
		for _, k := range []int{-1, 0, 5, 1001} {
			for _, h := range [][]api.Int{nil, poly(1), poly(0, 1), poly(1, 1), binomial(65, 1)} {
				for _, a := range noughtLists() {
					wantNoFind(t, a, h, p, k, api.ErrNought)
				}
				for _, a := range longLists() {
					wantNoFind(t, a, h, p, k, api.ErrLimit)
				}
			}
		}
	}
	for _, a := range [][]api.Int{poly(1), poly(-5), poly(7, 0, 0)} { // a constant has no factors
		for _, h := range [][]api.Int{nil, poly(1), poly(0, 1), poly(1, 1)} {
			wantNoFind(t, a, h, 17, 5, api.ErrArg)
		}
	}
}
