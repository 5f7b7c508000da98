package hensel_test

import (
	"math/big"
	"slices"
	"testing"

	"cleaver/api"
)

// P13.3

func TestLiftOfSome(t *testing.T) {
	for _, c := range []struct {
		a    []api.Int
		l    [][]int
		p, k int
		z    [][]api.Int
	}{
		{poly(1, 0, 1), [][]int{{2, 1}, {3, 1}}, 5, 2, [][]api.Int{poly(7, 1), poly(18, 1)}},
		{poly(1, 0, 1), [][]int{{3, 1}, {2, 1}}, 5, 2, [][]api.Int{poly(18, 1), poly(7, 1)}},
		{poly(1, 0, 1), [][]int{{2, 1}, {3, 1}}, 5, 1, [][]api.Int{poly(2, 1), poly(3, 1)}},
		{poly(1, 0, 1), [][]int{{2, 1}, {3, 1}}, 5, 3, [][]api.Int{poly(57, 1), poly(68, 1)}},
		{poly(1, 0, 1, 0, 0), [][]int{{2, 1}, {3, 1}}, 5, 2, [][]api.Int{poly(7, 1), poly(18, 1)}},
		{poly(-2, 0, -2), [][]int{{2, 1}, {3, 1}}, 5, 2, [][]api.Int{poly(7, 1), poly(18, 1)}},
		{poly(-1, -1, 6), [][]int{{3, 1}, {5, 1}}, 7, 2, [][]api.Int{poly(24, 1), poly(33, 1)}},
		{poly(1, 2, 3), [][]int{{2, 4, 1}}, 5, 2, [][]api.Int{poly(17, 9, 1)}},
		{poly(0, 0, 1, 1), [][]int{{0, 0, 1}, {1, 1}}, 2, 4, [][]api.Int{poly(0, 0, 1), poly(1, 1)}},
		{poly(2, 0, 1, 1), [][]int{{0, 0, 1}, {1, 1}}, 2, 2, [][]api.Int{poly(2, 2, 1), poly(3, 1)}},
		{poly(7), nil, 5, 3, nil},
	} {
		if z := wantLift(t, c.a, c.l, c.p, c.k); !alike(z, c.z) {
			t.Errorf("%s: %v, not %v", said("Lift", c.a, c.l, c.p, c.k), z, c.z)
		}
	}
}

// monics are all monic polynomials by p of degree 1 to high.
func monics(p, high int) [][]int {
	var z [][]int
	for _, l := range all(high, 0, p-1) {
		if len(l) > 0 {
			z = append(z, append(l, 1))
		}
	}
	return z
}

// mayLift: is a, which is plain, by p its last coefficient times the product of l, which are monic and plain, each one apart from the others?
func mayLift(a []api.Int, l [][]int, p int) bool {
	q := big.NewInt(int64(p))
	last := a[max(len(a)-1, 0):]
	product := by(times(append(lifts(l), last)...), q)
	return len(by(last, q)) > 0 && same(product, by(a, q)) && areAllApart(l, p)
}

// All small polynomials, by 2 and 3, with all small lists.
func TestLiftOfAllSmallOnes(t *testing.T) {
	for _, c := range []struct{ p, longest, low, high int }{{2, 3, -1, 2}, {3, 2, -1, 2}} {
		for _, l := range listsOf(monics(c.p, 2), c.longest) {
			degree := 0
			for _, f := range l {
				degree += len(f) - 1
			}
			for _, numbers := range all(4, c.low, c.high) {
				a := norm(poly(numbers...))
				if len(a)-1 != degree && (len(a)+degree)%3 > 0 {
					continue // of those that are refused by their degrees a few are enough
				}
				if k := 1 + degree%4; mayLift(a, l, c.p) {
					wantLift(t, poly(numbers...), l, c.p, k)
				} else {
					wantNoLift(t, poly(numbers...), l, c.p, k, api.ErrArg)
				}
			}
		}
	}
}

// listsOf are all lists of up to n of some.
func listsOf(from [][]int, n int) [][][]int {
	lists := [][][]int{nil}
	for begin := 0; n > 0; n-- {
		end := len(lists)
		for _, l := range lists[begin:end] {
			for _, f := range from {
				lists = append(lists, append(slices.Clone(l), f))
			}
		}
		begin = end
	}
	return lists
}

// known is a polynomial with its factors by p^k, and by p.
type known struct {
	a    []api.Int
	z    [][]api.Int
	l    [][]int
	p, k int
}

// known puts a polynomial of degrees' many factors of numbers of so many bits, and by p^k of as good as nothing else.
// It is none, if by p two of them have a common divisor.
func (m maker) known(degrees []int, bits, p, k int) (known, bool) {
	modulus, c := powerOf(p, k), known{p: p, k: k}
	product := m.of(0, 70, p)
	for _, d := range degrees {
		f := m.of(d, bits, p)
		product = times(product, f)
		c.z = append(c.z, monicBy(f, modulus))
		c.l = append(c.l, intsBy(c.z[len(c.z)-1], p))
	}
	c.a = m.unplain(plus(product, modulus, m.of(len(product)-1, 9, p)))
	whole := norm(c.a)
	return c, areAllApart(c.l, p) && len(whole) == len(product)
}

// many calls f with polynomials put of factors that are known.
func many(f func(c known)) {
	m := newMaker(3)
	for _, p := range []int{2, 3, 5, 7, 31, 101, 251, 257, 4093, 65519, 65521} {
		for found := 0; found < 30; {
			degrees := make([]int, 1+m.IntN(5))
			for i := range degrees {
				degrees[i] = 1 + m.IntN(4)
			}
			if c, ok := m.known(degrees, 1+m.IntN(200), p, 1+m.IntN(40)); ok {
				f(c)
				found++
			}
			if p == 2 {
				found++ // few are apart by 2
			}
		}
	}
}

func TestLift(t *testing.T) {
	many(func(c known) {
		if z := wantLift(t, c.a, c.l, c.p, c.k); !alike(z, c.z) {
			t.Fatalf("%s: %v, not %v", said("Lift", c.a, c.l, c.p, c.k), z, c.z)
		}
	})
}

// Each power is gone up to, odd ones and even ones, whatever those on the way are.
func TestEachPower(t *testing.T) {
	m := newMaker(4)
	for k := 1; k <= 130; k++ {
		c, ok := m.known([]int{1, 2, 3}, 40, 65521, k)
		if !ok {
			t.Fatal("by so great a prime factors are apart")
		}
		if z := wantLift(t, c.a, c.l, c.p, c.k); !alike(z, c.z) {
			t.Fatalf("%s: %v, not %v", said("Lift", c.a, c.l, c.p, c.k), z, c.z)
		}
		wantLift(t, poly(0, -1, 0, 1), [][]int{{0, 1}, {1, 1}, {2, 1}}, 3, k)
		wantLift(t, poly(6, 5, 3, 3), [][]int{{0, 1}, {1, 1, 1}}, 2, k)
	}
}

func TestHighPowers(t *testing.T) {
	for _, p := range []int{2, 3, 17, 65521} {
		for _, k := range []int{511, 512, 513, 999, 1000} {
			wantLift(t, poly(p, 1, 7, 1), [][]int{{0, 1}, intsBy(poly(1, 7, 1), p)}, p, k)
		}
	}
	wantLift(t, poly(1, 0, 0, 0, 1), [][]int{{2, 1}, {8, 1}, {9, 1}, {15, 1}}, 17, 1000)
}

// By a prime that leaves the rest 1 by n, x^n - 1 has n factors of degree 1.
func TestCircles(t *testing.T) {
	for _, c := range []struct{ n, p int }{{1, 2}, {2, 3}, {3, 7}, {4, 5}, {5, 11}, {6, 7}, {12, 13}, {16, 17}, {32, 97}, {58, 59}, {60, 61}, {63, 127}, {64, 193}, {64, 65089}} {
		a := make([]api.Int, c.n+1)
		a[0], a[c.n] = small(-1), small(1)
		var l [][]int
		for root := 1; root < c.p; root++ {
			if new(big.Int).Exp(big.NewInt(int64(root)), big.NewInt(int64(c.n)), big.NewInt(int64(c.p))).Int64() == 1 {
				l = append(l, []int{c.p - root, 1})
			}
		}
		for _, k := range []int{1, 2, 3, 20} {
			wantLift(t, a, l, c.p, k)
		}
	}
}

// The highest degree, in few and in many factors.
func TestHighestDegree(t *testing.T) {
	m := newMaker(5)
	for _, degrees := range [][]int{{64}, {63, 1}, {1, 63}, {32, 32}, {1, 2, 3, 4, 5, 6, 7, 8, 9, 10, 9}, slices.Repeat([]int{2}, 32), slices.Repeat([]int{1}, 64)} {
		for found := false; !found; {
			var c known
			if c, found = m.known(degrees, 60, 65521, 12); !found {
				continue
			}
			if z := wantLift(t, append(c.a, api.Int{}, api.Int{Neg: true}), c.l, c.p, c.k); !alike(z, c.z) {
				t.Fatal(said("Lift", c.a, c.l, c.p, c.k))
			}
		}
	}
}

// A factor may have squares in it by p, as long as no other one has a divisor in common with it.
func TestFactorsThatAreNotSquarefree(t *testing.T) {
	for _, c := range []struct {
		l [][]int
		p int
	}{
		{[][]int{{0, 0, 1}, {1, 1}}, 2}, {[][]int{{0, 0, 0, 0, 1}, {1, 0, 1}}, 2}, {[][]int{{1, 0, 1}, {0, 1}}, 2}, {[][]int{{4, 4, 1}, {1, 1}}, 5}, {[][]int{{1, 2, 1}, {4, 4, 1}, {0, 0, 1}}, 7}, {[][]int{{1, 0, 0, 1}}, 3}, {[][]int{{0, 0, 1}}, 65521},
	} {
		for k := 1; k <= 9; k++ {
			a := plus(times(append(lifts(c.l), poly(3*c.p+1))...), big.NewInt(int64(c.p)), poly(5, 3))
			wantLift(t, a, c.l, c.p, k)
		}
	}
}

// A constant that p does not divide has an empty list, and no other; an empty list is of nothing else.
func TestEmptyList(t *testing.T) {
	for _, l := range [][][]int{nil, {}} {
		for _, a := range [][]api.Int{poly(1), poly(-1), poly(7, 0), {{Neg: true, Abs: []uint64{most, most, 0}}, {}}} {
			wantLift(t, a, l, 11, 1+len(a))
			wantLift(t, a, l, 65521, 1000)
		}
		for _, a := range [][]api.Int{nil, poly(0), poly(0, 0), poly(5), poly(-10), poly(1, 1), poly(1, 0, 1), poly(1, 5), {{Abs: []uint64{0, 0}}, {Neg: true}}} {
			wantNoLift(t, a, l, 5, 2, api.ErrArg)
		}
	}
	wantNoLift(t, poly(7), [][]int{{0, 1}}, 5, 2, api.ErrArg)
	wantNoLift(t, poly(7), [][]int{{1}}, 5, 2, api.ErrArg)
}

// What Lift refuses.

func TestLiftWithoutPower(t *testing.T) {
	long := append(make([]api.Int, 65), small(1))
	for _, c := range noPowers() {
		for _, a := range [][]api.Int{nil, poly(1), poly(1, 0, 1), long} {
			wantNoLift(t, a, [][]int{{2, 1}, {3, 1}}, c[0], c[1], api.ErrArg)
			wantNoLift(t, a, nil, c[0], c[1], api.ErrArg)
		}
	}
}

// Of several errors the degree's is told ahead of all that is wrong with what p makes of a, and with l.
func TestDegreeAboveTheLimit(t *testing.T) {
	lists := [][][]int{nil, {nil}, {{1}}, {{0, 1}, {0, 1}}, {{-1, 7, 2}}, {append(make([]int, 65), 1)}}
	for _, degree := range []int{65, 66, 128, 5000} {
		for _, last := range []int{1, 2, 5, -10} {
			for _, l := range lists {
				a := append(make([]api.Int, degree), small(last))
				wantNoLift(t, a, l, 5, 2, api.ErrLimit)
				wantNoLift(t, append(a, api.Int{}, api.Int{Neg: true}), l, 2, 1000, api.ErrLimit)
				wantNoLift(t, a, l, 5, 0, api.ErrArg)
			}
		}
	}
	power := append(make([]api.Int, 64), small(1), api.Int{}, api.Int{Neg: true, Abs: []uint64{0, 0}})
	wantLift(t, power, [][]int{append(make([]int, 64), 1)}, 5, 2) // noughts behind degree 64 are of no degree
	wantNoLift(t, make([]api.Int, 70), [][]int{{0, 1}}, 5, 2, api.ErrArg)
}

// p divides the last coefficient, or all there are: then not even what is left by p is let through.
func TestLastCoefficientByP(t *testing.T) {
	l := [][]int{{2, 1}, {3, 1}}
	for _, a := range [][]api.Int{nil, {}, poly(0), poly(0, 0, 0), {{Neg: true}}, poly(5), poly(5, 10, 15), poly(1, 0, 1, 5), poly(1, 0, 1, 0, -25, 0), poly(1, 0, 5), poly(1, 0, 0, 0, 1, 5)} {
		wantNoLift(t, a, l, 5, 2, api.ErrArg)
		wantNoLift(t, a, nil, 5, 2, api.ErrArg)
	}
	wantNoLift(t, []api.Int{small(1), {}, small(1), {Abs: []uint64{0, 1}}}, [][]int{{1, 0, 1}}, 2, 3, api.ErrArg)
	wantLift(t, []api.Int{small(1), {}, small(1), {Neg: true, Abs: []uint64{0, 0}}}, [][]int{{1, 0, 1}}, 2, 3)
}

// One polynomial that is not as it must be, at each place, though by p it is what is asked for.
func TestPolynomialsThatMayNotBe(t *testing.T) {
	good := [][]int{{2, 1}, {0, 1}, {1, 1, 1}, {4, 1}, {2, 0, 1}}
	a := times(append(lifts(good), poly(7))...)
	wantLift(t, a, good, 5, 3)
	for i, f := range good {
		for _, other := range [][]int{
			nil, {}, {1}, {0}, {6}, append(slices.Clone(f), 0), append(slices.Clone(f), 5), append([]int{f[0] - 5}, f[1:]...), append([]int{f[0] + 5}, f[1:]...), append([]int{f[0] + 1<<62}, f[1:]...),
			append(slices.Clone(f[:len(f)-1]), 6), append(slices.Clone(f[:len(f)-1]), -4), intsBy(times(poly(f...), poly(2)), 5), intsBy(times(poly(f...), poly(4)), 5), f[:len(f)-1], append([]int{0}, f...),
		} {
			l := slices.Clone(good)
			l[i] = other
			wantNoLift(t, a, l, 5, 3, api.ErrArg)
		}
	}
	for _, one := range [][]int{{1}, nil, {}} {
		for i := range len(good) + 1 {
			wantNoLift(t, a, slices.Insert(slices.Clone(good), i, one), 5, 3, api.ErrArg)
		}
	}
}

// Two that have a divisor in common, at any two places, though the product is what is asked for.
func TestPolynomialsThatAreNotApart(t *testing.T) {
	good := [][]int{{2, 1}, {3, 1}, {1, 1, 1}, {4, 1}, {1, 1}, {2, 0, 1}}
	for i, f := range good {
		for j := range good {
			for _, shared := range [][]int{f, intsBy(times(poly(f...), poly(0, 1)), 5), {0, 0, 1}} {
				l := slices.Clone(good)
				if l[j] = shared; i != j {
					l[i] = intsBy(times(poly(f...), poly(0, 1)), 5)
				}
				a := times(lifts(l)...)
				if areAllApart(l, 5) {
					wantLift(t, a, l, 5, 2)
				} else {
					wantNoLift(t, a, l, 5, 2, api.ErrArg)
				}
			}
		}
	}
}

// The product is off by one coefficient, or there is a polynomial too few or too many.
func TestPolynomialsThatMakeAnotherProduct(t *testing.T) {
	good := [][]int{{2, 1}, {3, 1}, {1, 1, 1}, {4, 1}}
	a := times(append(lifts(good), poly(3))...)
	for i := range a {
		for _, off := range []int{1, 2, 5, -25, 10} {
			near := plus(a, big.NewInt(int64(off)), append(make([]api.Int, i), small(1)))
			if off%5 == 0 {
				wantLift(t, near, good, 5, 4)
			} else {
				wantNoLift(t, near, good, 5, 4, api.ErrArg)
			}
		}
	}
	for i := range good {
		wantNoLift(t, a, slices.Delete(slices.Clone(good), i, i+1), 5, 4, api.ErrArg)
		wantNoLift(t, a, slices.Insert(slices.Clone(good), i, []int{0, 1}), 5, 4, api.ErrArg)
		wantNoLift(t, a, slices.Insert(slices.Clone(good), i, good[i]), 5, 4, api.ErrArg)
	}
	wantNoLift(t, poly(2, 2), [][]int{{2, 1}}, 5, 1, api.ErrArg)
	wantNoLift(t, poly(4, 2), [][]int{{4, 1}}, 5, 1, api.ErrArg)
	wantLift(t, poly(4, 2), [][]int{{2, 1}}, 5, 1)
}
