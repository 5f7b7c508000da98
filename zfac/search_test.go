package zfac_test

import (
	"math/big"
	"slices"
	"testing"

	"cleaver/api"
	"cleaver/ffac"
	"cleaver/prime"
	"cleaver/short"
	"cleaver/zfac"
	"cleaver/zpoly"
)

// What the calls go by, each by itself.

// All primes are tried, each once, so that there is none by which a polynomial that is refused may be parted.
func TestPrimes(t *testing.T) {
	tried := slices.Collect(zfac.Primes())
	if tried[0] < 60000 {
		t.Error(tried[0])
	}
	slices.Sort(tried)
	var wanted []int
	for n := range api.MaxPrime + 1 {
		if isPrime(n) {
			wanted = append(wanted, n)
		}
	}
	if !slices.Equal(tried, wanted) {
		t.Error(len(tried), len(wanted))
	}
}

// symmetric are products whose local factors are alike in some way: none has an odd power of x, or the coefficients of each
// are the same from both ends, or all is so about another place.
func symmetric() []product {
	var all []product
	for s := -3; s <= 3; s++ {
		for _, l := range [][][]api.Int{{climber(2, 3, 5)}, {spread(climber(2, 3), 2), climber(5, 7)}, {spread(climber(-1, 2, 3), 2)}, {circle(8), circle(12), circle(24), circle(60)}, {binomial(16, 1)}, {climber(3, 7), climber(2, 6)}, {binomial(8, 3), binomial(8, 7)}, {circle(5), circle(10), circle(15)}} {
			var factors [][]api.Int
			for _, f := range l {
				factors = append(factors, shifted(f, s))
			}
			all = append(all, free(1, factors...))
		}
	}
	return all
}

// owners are the places of the factors that local ones belong to.
func owners(t *testing.T, c product, rests [][]int, p int) []int {
	var z []int
	for _, f := range rests {
		owner := -1
		for i, g := range c.factors {
			by, _ := zpoly.Mod(g.P, p)
			if len(restBy(by, f, p)) == 0 {
				owner = i
			}
		}
		if owner < 0 {
			t.Fatalf("%s by %d: %v", text(c.a), p, f)
		}
		z = append(z, owner)
	}
	return z
}

// restBy is the rest by p of a list of ints that is divided by a monic one, noughts at the end left out.
func restBy(a, b []int, p int) []int {
	left := slices.Clone(a)
	for top := len(left) - 1; top >= len(b)-1; top-- {
		q := left[top] % p
		for i, c := range b {
			left[top-len(b)+1+i] -= q * c % p
		}
	}
	for i, c := range left {
		left[i] = (c%p + p) % p
	}
	return trim(left)
}

// The words of all local factors of one, or of some, make a sum near 0; those of no other choice do.
func TestWords(t *testing.T) {
	m := newMaker(14)
	all := symmetric()
	for range 60 {
		c := m.product(1+m.IntN(4), 1, 12)
		all = append(all, put(small(1), c.factors...))
	}
	for _, c := range all {
		for p, primes := m.IntN(300), 0; primes < 2; p, _ = prime.Next(p) {
			if good, _ := short.Good(c.a, p); !good {
				continue
			}
			primes++
			rests, words, far := zfac.Words(c.a, p)
			if far > 1<<20 {
				t.Fatal(text(c.a), p, far)
			}
			if len(words) > 16 { // there would be too many choices
				continue
			}
			owner, whole := owners(t, c, rests, p), 0
			for size := 1; size <= len(words); size++ {
				for places := range zfac.Choices(words, size, far) {
					if isWhole(places, owner) {
						whole++
					} else {
						t.Fatalf("%s by %d: %v of %v", text(c.a), p, places, owner)
					}
				}
			}
			if whole != 1<<len(c.factors)-1 {
				t.Fatalf("%s by %d: %d", text(c.a), p, whole)
			}
		}
	}
}

// isWhole: is each owner's place among these, or none?
func isWhole(places, owner []int) bool {
	for i := range owner {
		for j := range owner {
			if owner[i] == owner[j] && slices.Contains(places, i) != slices.Contains(places, j) {
				return false
			}
		}
	}
	return true
}

// By 2 there is no power so high that words tell anything: all choices are near 0 then.
func TestWordsWithoutPower(t *testing.T) {
	line := []api.Int{two(497, 6), small(1)}
	other := []api.Int{two(498, 3), small(1)}
	c := free(1, line, other)
	rests, words, far := zfac.Words(c.a, 2)
	if len(rests) != 2 || far != 1<<63 || len(slices.Collect(zfac.Choices(words, 1, far))) != 2 {
		t.Error(rests, words, far)
	}
	for _, most := range []int{0, 9} {
		z := zfac.By(c.a, 2, most, nil)
		slices.SortFunc(z, order)
		if !slices.EqualFunc(z, polys(c.factors), same) {
			t.Error(texts(z))
		}
	}
	whole := []api.Int{two(996, -2), small(1), small(1)} // by 2 it is x and x + 1, but has no root
	wantIrreducible(t, whole, true)
	for _, most := range []int{0, 9} {
		if z := zfac.By(whole, 2, most, nil); len(z) != 1 || !same(z[0], whole) {
			t.Error(texts(z))
		}
	}
}

// All choices of some words, rising, the first places first, and of these just those whose sum is near 0.
func TestChoices(t *testing.T) {
	m := newMaker(15)
	for n := range 9 {
		words := make([]uint64, n)
		for i := range words {
			words[i] = uint64(m.IntN(9)) - 4
		}
		for size := 1; size <= n; size++ {
			for _, far := range []uint64{0, 1, 5, 1 << 63} {
				var wanted, got [][]int
				for set := range 1 << n {
					var places []int
					sum := 0
					for i := range n {
						if set>>i&1 == 1 {
							places = append(places, i)
							sum += int(words[i])
						}
					}
					if len(places) == size && uint64(max(sum, -sum)) <= far {
						wanted = append(wanted, places)
					}
				}
				slices.SortFunc(wanted, slices.Compare[[]int])
				for places := range zfac.Choices(words, size, far) {
					got = append(got, slices.Clone(places))
				}
				if !slices.EqualFunc(got, wanted, slices.Equal[[]int]) {
					t.Fatal(words, size, far, got, wanted)
				}
				for end := 1; end <= len(wanted); end++ { // who goes through them may leave at any
					told := 0
					for range zfac.Choices(words, size, far) {
						if told++; told == end {
							break
						}
					}
					if told != end {
						t.Fatal(words, size, far, told, end)
					}
				}
			}
		}
	}
	if n := len(slices.Collect(zfac.Choices([]uint64{1 << 63, 1 << 63, 1<<63 - 1, most}, 2, 1))); n != 3 { // gone round
		t.Error(n)
	}
	if n := len(slices.Collect(zfac.Choices([]uint64{1, 2}, 3, most))); n != 0 {
		t.Error(n)
	}
}

func TestAreMore(t *testing.T) {
	for n := range int64(api.MaxDeg + 1) {
		for size := range n/2 + 1 {
			ways := new(big.Int).Binomial(n, size)
			for _, most := range []int{0, 1, 2, 5, 63, 64, 1000, 1 << 24, 1 << 40, int(ways.Int64()) - 1, int(ways.Int64())} {
				if size > 0 && most < 1<<50 && zfac.AreMore(int(n), int(size), most) != (ways.Cmp(big.NewInt(int64(most))) > 0) {
					t.Error(n, size, most)
				}
			}
		}
	}
}

// A bit for each sum of some numbers.
func TestSums(t *testing.T) {
	for _, numbers := range [][]int{nil, {1}, {2, 2}, {3, 5}, {1, 1, 4}, {7, 7, 7, 20}, {64}, {32, 32}, {1, 63}, {31, 33, 2}} {
		wanted := uint64(0)
		for set := range 1 << len(numbers) {
			sum := 0
			for i, n := range numbers {
				sum += set >> i & 1 * n
			}
			wanted |= 1 << sum
		}
		if z := zfac.Sums(numbers); z != wanted {
			t.Errorf("%v: %b, not %b", numbers, z, wanted)
		}
	}
}

// The best prime may part a polynomial. Primes tell of no product that it is irreducible, of all that are of degree 1 and of
// most others that they are, but of a climber never.
func TestBest(t *testing.T) {
	m := newMaker(16)
	for i := range 150 {
		f := m.eisenstein(2+i%30, 20)
		for _, c := range []product{free(1, f), free(1, f, poly(0, 1)), free(1, f, m.eisenstein(2+i%20, 30)), put(small(1), m.product(2+i%3, 1, 20).factors...)} {
			p, irreducible := zfac.Best(c.a)
			if good, _ := short.Good(c.a, p); !good || irreducible && len(c.factors) > 1 || len(c.a) == 2 && !irreducible {
				t.Fatal(text(c.a), p, irreducible)
			}
		}
	}
	told := 0
	for range 50 {
		if _, irreducible := zfac.Best(m.eisenstein(12, 30)); irreducible {
			told++
		}
	}
	if told < 40 {
		t.Error(told)
	}
	for _, f := range [][]api.Int{climber(2, 3), climber(2, 3, 5, 7), binomial(4, 1), binomial(8, 1), circle(105)} {
		if _, irreducible := zfac.Best(f); irreducible {
			t.Error(text(f))
		}
	}
}

// Of the first primes that may part it, the best is one by which it has the fewest local factors.
func TestBestOfAll(t *testing.T) {
	for _, c := range []product{free(1, climber(2, 3, 5), climber(-1, 7, 11)), free(1, circle(40), circle(24), circle(7)), free(1, climber(2, 3), circle(9), binomial(12, 5)), free(1, binomial(4, 1))} {
		counts := map[int]int{}
		for p := range zfac.Primes() {
			if good, _ := short.Good(c.a, p); good {
				rests, _ := zpoly.Mod(c.a, p)
				local, _ := ffac.Split(rests, p, nil)
				counts[p] = len(local)
			}
			if len(counts) == 8 {
				break
			}
		}
		fewest, greatest := 64, 0
		for _, n := range counts {
			fewest, greatest = min(fewest, n), max(greatest, n)
		}
		if p, _ := zfac.Best(c.a); counts[p] != fewest || fewest == greatest && len(c.factors) > 1 {
			t.Error(text(c.a), p, counts)
		}
	}
}

// Primes tell of what is squarefree that it is, but of nothing else.
func TestSurelyFree(t *testing.T) {
	m := newMaker(17)
	for i := range 200 {
		c := m.product(1+m.IntN(4), 1+i%2, 20)
		if a := put(small(1), c.factors...); zfac.SurelyFree(a.a) != c.isFree() {
			t.Error(text(c.a))
		}
	}
	p, q, r := 60013, 60017, 60029 // those that are asked
	f := times(poly(1, 1), []api.Int{of(new(big.Int).Mul(big.NewInt(int64(p*q)), big.NewInt(int64(r)))), small(1)}, poly(0, 1))
	if zfac.SurelyFree(f) {
		t.Error("none of these tells it")
	}
	zero := of(new(big.Int).Mul(big.NewInt(int64(p*q)), big.NewInt(int64(r))))
	free(1, poly(1, 1), []api.Int{zero, small(1)}, poly(0, 1)).want(t, nil)
}

// Nothing that is within the limit is sure to be past it, be its coefficients as long as they may; but what is far past it is.
func TestSurelyTooGreat(t *testing.T) {
	one := small(1)
	for _, x := range aroundTheLimit() {
		if x.n <= 1000 && zfac.SurelyTooGreat(zpoly.Prim(x.c.a)) {
			t.Error(text(x.c.a))
		}
	}
	for n := 1; n <= api.MaxDeg; n += 1 + n/8 {
		if c := put(one, api.Factor{P: []api.Int{two(998, -2), one}, N: n}); zfac.SurelyTooGreat(c.a) {
			t.Error(n)
		}
		if c := put(one, api.Factor{P: []api.Int{two(1100, -2), one}, N: n}); !zfac.SurelyTooGreat(c.a) {
			t.Error(n)
		}
		if n <= 21 {
			f, g := []api.Int{two(497, -2), one}, []api.Int{two(496, 1), {}, one}
			if c := put(one, api.Factor{P: f, N: n}, api.Factor{P: g, N: n}); limitBits(c.radical()) > 1000 || zfac.SurelyTooGreat(c.a) {
				t.Error(n)
			}
		}
	}
	for p := range zfac.Primes() { // the first one divides the last number, so that by it there are no such factors
		c := put(one, api.Factor{P: []api.Int{two(400, 1), small(p)}, N: 2})
		if zfac.SurelyTooGreat(c.a) {
			t.Error(p)
		}
		c.want(t, nil)
		break
	}
	all := big.NewInt(1)
	for p := range zfac.Primes() {
		all.Mul(all, big.NewInt(int64(p)))
	}
	if !zfac.SurelyTooGreat(times([]api.Int{one, of(all)}, []api.Int{one, of(all)})) { // each prime divides the last one
		t.Error("all primes")
	}
	wantError(t, []api.Int{one, of(all)}, nil, api.ErrLimit)
	wantError(t, times([]api.Int{one, of(all)}, []api.Int{one, of(all)}), nil, api.ErrLimit)
}

// Short tells the factor of the local one of the highest degree; it tells none where too high a power is needed: then
// choices go on.
func TestByShort(t *testing.T) {
	for _, c := range []struct {
		c    product
		p    int
		told bool
	}{
		{free(1, climber(2, 3, 5)), 65521, true}, {free(1, climber(2, 3), circle(7)), 101, true}, {free(1, poly(-1, 2), climber(2, 3, 5, 7)), 65521, true}, {free(1, climber(2, 3, 5, 7, 11)), 60013, true},
		{free(1, climber(2, 3, 5, 7, 11)), 19, true}, {free(1, []api.Int{two(300, 1), {}, {}, {}, small(1)}, []api.Int{two(301, 3), {}, {}, {}, {}, {}, {}, {}, small(1)}, climber(2, 3)), 11, false},
	} {
		if good, _ := short.Good(c.c.a, c.p); !good {
			t.Fatal(text(c.c.a))
		}
		rests, _, _ := zfac.Words(c.c.a, c.p)
		owner, highest := owners(t, c.c, rests, c.p), 0
		for _, f := range rests {
			highest = max(highest, len(f))
		}
		z, told := zfac.ByShort(c.c.a, c.p)
		if told != c.told {
			t.Fatal(text(c.c.a), told)
		}
		isOwner := func(f []int) bool {
			return len(f) == highest && same(z, c.c.factors[owner[slices.IndexFunc(rests, func(g []int) bool { return slices.Equal(f, g) })]].P)
		}
		if told && !slices.ContainsFunc(rests, isOwner) {
			t.Error(text(c.c.a), text(z))
		}
		for _, most := range []int{0, 1 << 40} {
			z := zfac.By(c.c.a, c.p, most, nil)
			slices.SortFunc(z, order)
			if !slices.EqualFunc(z, polys(c.c.factors), same) {
				t.Error(texts(z))
			}
		}
	}
}

// Numbers so great that short refuses all local factors, and so many of these that there are more choices than are gone
// through ahead of it.
func TestChoicesAlone(t *testing.T) {
	f := climber(32771*32779*16411, 32783*32789*16417, 32797*32801*16421, 32803*32831*16427, 32833*32839*16433)
	for _, c := range []product{free(1, f), free(1, f, circle(15), climber(2, 3))} {
		p, _ := zfac.Best(c.a)
		if _, told := zfac.ByShort(c.a, p); told {
			t.Error("short tells it")
		}
		z := zfac.By(c.a, p, 10, nil)
		slices.SortFunc(z, order)
		if !slices.EqualFunc(z, polys(c.factors), same) {
			t.Error(texts(z))
		}
	}
}
