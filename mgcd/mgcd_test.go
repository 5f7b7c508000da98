package mgcd_test

import (
	"fmt"
	"slices"
	"strings"
	"testing"

	"cleaver/api"
	"cleaver/mgcd"
)

func gcd(t *testing.T, n int, a, b, wanted []api.Term) {
	t.Helper()
	z, e := mgcd.Gcd(n, a, b)
	want(t, said("Gcd", n, a, b), z, e, wanted)
}

func radical(t *testing.T, n int, a, wanted []api.Term) {
	t.Helper()
	z, e := mgcd.Radical(n, a)
	want(t, said("Radical", n, a), z, e, wanted)
}

func is(t *testing.T, n int, a []api.Term, wanted bool) {
	t.Helper()
	if z, e := mgcd.Is(n, a); z != wanted || e != api.OK {
		t.Fatalf("%s: %v, %v, not %v", said("Is", n, a), z, e, wanted)
	}
}

// P18.1

func TestGcdOfKnownOnes(t *testing.T) {
	for _, c := range []struct {
		n            int
		a, b, wanted string
	}{
		{2, "x2 -y2", "x2 +2xy +y2", "x +y"},
		{0, "12", "-18", "6"},
		{0, "-5", "", "5"},
		{0, "", "", ""},
		{1, "", "-4x2 +6", "4x2 -6"},
		{1, "-4x2 +6", "", "4x2 -6"},
		{2, "", "", ""},
		{2, "y2 -x3", "", "x3 -y2"},
		{1, "4x2 -4", "6x +6", "2x +2"},
		{1, "x2 -2", "x2 -3", "1"},
		{1, "-6", "4x", "2"},
		{2, "-6x3y", "4xy2", "2xy"},
		{2, "x3 +x2y", "x2 -y2", "x +y"},
		{2, "x3y +x2y2", "x3y2 -xy4", "x2y +xy2"},
		{2, "x -y", "y -x", "x -y"},
		{2, "x +y", "x -y", "1"},
		{3, "xz +yz", "xu +yu", ""},
		{3, "xz +yz", "x2 -y2", "x +y"},
		{3, "3xz -3y +6", "xz -y +2", "xz -y +2"},
		{1, "x15 -1", "x10 -1", "x5 -1"},
		{1, "x1000 -1", "x600 -1", "x200 -1"},
		{2, "x1000 -y1000", "x625 -y625", "x125 -y125"},
		{6, "x1000y1000z1000u1000v1000w1000", "-x1000y1000z1000u1000v1000w1000", "x1000y1000z1000u1000v1000w1000"},
		{6, "x1000y1000z1000u1000v1000w1000 -1", "x500y500z500u500v500w500 -1", "x500y500z500u500v500w500 -1"},
		{2, "2x2 +3x +1", "4x2 -1", "2x +1"},
		{1, "-x2 +1", "-x3 +1", "x -1"},
		{2, "-2xy -2", "-6x2y2 +6", "2xy +2"},
	} {
		if c.n == 3 && c.b == "xu +yu" {
			gcd(t, 4, poly(4, c.a), poly(4, c.b), poly(4, "x +y"))
			continue
		}
		gcd(t, c.n, poly(c.n, c.a), poly(c.n, c.b), upright(c.n, poly(c.n, c.wanted)))
		gcd(t, c.n, poly(c.n, c.b), poly(c.n, c.a), upright(c.n, poly(c.n, c.wanted)))
	}
}

// Of small ones: the Gcd divides both, its first coefficient is above 0, and each that divides both divides it.
func TestGcdOfSmallOnes(t *testing.T) {
	for n, lists := range [][][]api.Term{all(0, 0, 6), all(1, 2, 2), all(2, 1, 1)} {
		divides := make([]map[int]int, len(lists)) // by each, those of the list that divide it
		for i, a := range lists {
			divides[i] = map[int]int{}
			for j, b := range lists {
				if len(b) == 0 {
					continue
				}
				if _, exact := quotient(n, a, b); exact {
					divides[i][j] = 1
				}
			}
		}
		for i, a := range lists {
			for j, b := range lists {
				g, e := mgcd.Gcd(n, a, b)
				k := slices.IndexFunc(lists, func(l []api.Term) bool { return same(norm(n, l), g) })
				if e != api.OK || k < 0 || len(g) > 0 && g[0].C.Neg {
					t.Fatalf("%s: %s, %v", said("Gcd", n, a, b), text(g), e)
				}
				if len(a) == 0 && len(b) == 0 {
					want(t, said("Gcd", n, a, b), g, e, nil)
					continue
				}
				if divides[i][k]+divides[j][k] != 2 {
					t.Fatalf("%s: %s does not divide both", said("Gcd", n, a, b), text(g))
				}
				for both := range divides[i] {
					if divides[j][both] == 1 && divides[k][both] == 0 {
						t.Fatalf("%s: %s, but %s divides both", said("Gcd", n, a, b), text(g), text(lists[both]))
					}
				}
			}
		}
	}
}

// made is a product of irreducible polynomials, each as often as is said, times a number.
func made(n int, c int, factors [][]api.Term, often []int) []api.Term {
	z := []api.Term{term(c, make([]int, n)...)}
	for k, f := range factors {
		z = times(n, z, power(n, f, often[k]))
	}
	return z
}

// drawn are some irreducible polynomials, and how often two products have them.
func (m maker) drawn(n int) (factors [][]api.Term, left, right []int) {
	list := irreducibles(n)
	m.Shuffle(len(list), func(i, j int) { list[i], list[j] = list[j], list[i] })
	factors = list[:min(len(list), 2+m.IntN(4))]
	for range factors {
		left, right = append(left, m.IntN(3)), append(right, m.IntN(3))
	}
	return factors, left, right
}

// mixed has the same terms in another order, one of them as two.
func (m maker) mixed(a []api.Term) []api.Term {
	a = slices.Clone(a)
	m.Shuffle(len(a), func(i, j int) { a[i], a[j] = a[j], a[i] })
	if len(a) > 0 {
		e := a[m.IntN(len(a))].E
		a = append(a, term(7, e...), term(-7, e...))
	}
	return a
}

func TestGcdOfProducts(t *testing.T) {
	m := newMaker(2)
	for range 1000 {
		n := 1 + m.IntN(api.MaxVars)
		factors, left, right := m.drawn(n)
		both := make([]int, len(factors))
		for k := range both {
			both[k] = min(left[k], right[k])
		}
		sign := 1 - 2*m.IntN(2)
		a, b := made(n, 6*sign, factors, left), made(n, -4, factors, right)
		if max(len(a), len(b)) < 1500 {
			gcd(t, n, m.mixed(a), m.mixed(b), made(n, 2, factors, both))
		}
	}
}

// Of great numbers, and such as primes of 63 bits might be taken for.
func TestGcdOfGreatNumbers(t *testing.T) {
	m := newMaker(3)
	for range 60 {
		n, limbs := 1+m.IntN(3), 1+m.IntN(12)
		list := make([][]api.Term, 3)
		for k := range list {
			list[k] = m.unlike(n, 4, 3)
			for i := range list[k] {
				list[k][i].C = m.long(limbs)
			}
			// with exponents that no other one of them has, so that they can have nothing in common but by chance
			list[k] = primitive(n, append(list[k], term(1, slices.Repeat([]int{1 + k}, n)...), term(1, slices.Repeat([]int{0}, n)...)))
		}
		gcd(t, n, times(n, list[0], list[1]), times(n, list[0], list[2]), list[0])
		radical(t, n, times(n, list[0], list[1], list[0]), times(n, list[0], list[1]))
	}
	great := api.Int{Abs: slices.Repeat([]uint64{most}, api.MaxLimbs)}
	a := []api.Term{{C: great, E: []int{1, 0}}, {C: small(1), E: []int{0, 1}}}
	gcd(t, 2, times(2, a, poly(2, "2x -3y")), times(2, a, poly(2, "x +y +1")), a)
	radical(t, 2, times(2, a, a), a)
	is(t, 2, times(2, a, a), false)
	is(t, 2, times(2, a, poly(2, "2x -3y")), true)
}

// dense has all terms with exponents up to high.
func (m maker) dense(n, high, top int) []api.Term {
	a := []api.Term{}
	for _, t := range all(n, high, 0)[0] {
		a = append(a, t)
	}
	at := make([]int, n)
	for more := true; more; {
		a = append(a, term(1+m.IntN(top), slices.Clone(at)...))
		more = false
		for i := n - 1; i >= 0 && !more; i-- {
			at[i] = (at[i] + 1) % (high + 1)
			more = at[i] > 0
		}
	}
	return norm(n, a)
}

// sparse has up to so many terms, with exponents up to high.
func (m maker) sparse(n, terms, high, top int) []api.Term {
	a := []api.Term{term(1, slices.Repeat([]int{0}, n)...)}
	for range terms {
		e := make([]int, n)
		for i := range e {
			e[i] = m.IntN(high + 1)
		}
		a = append(a, term(m.IntN(2*top+1)-top, e...))
	}
	return upright(n, a)
}

func TestGcdOfLongOnes(t *testing.T) {
	m := newMaker(4)
	for _, c := range []struct {
		n       int
		g, a, b []api.Term
	}{
		{1, m.dense(1, 400, 1000), m.dense(1, 500, 1000), m.dense(1, 600, 1000)},
		{2, m.dense(2, 40, 1000), poly(2, "x +2y -3"), poly(2, "x2 -2y +3 +xy")},
		{2, product(2, poly(2, "x +y"), m.sparse(2, 300, 400, 9)), poly(2, "x2 +y"), poly(2, "2x2 -y7")},
		{3, product(3, slices.Repeat([][]api.Term{poly(3, "x +y +z +1")}, 16)...), poly(3, "x +2y -3"), poly(3, "x -2y +3z +5")},
		{3, product(3, slices.Repeat([][]api.Term{poly(3, "x +y +z")}, 40)...), poly(3, "x +2y -3z"), poly(3, "x -2y +3z")},
		{3, m.sparse(3, 800, 300, 1000), m.sparse(3, 4, 400, 1000), m.sparse(3, 4, 700, 1000)},
		{6, m.dense(6, 1, 1000), m.dense(6, 1, 5), poly(6, "x -y +z +u -v +3w")},
		{6, m.sparse(6, 60, 400, 1000), m.sparse(6, 60, 400, 1000), m.sparse(6, 60, 600, 1000)},
		{6, m.sparse(6, 8, 60, 1000), m.sparse(6, 300, 900, 1000), m.sparse(6, 40, 900, 1000)},
		{6, m.sparse(6, 1200, 500, 1000), m.sparse(6, 2, 400, 1000), m.sparse(6, 2, 400, 1000)},
		{6, unit(6), m.sparse(6, 4000, 1000, 1000), m.sparse(6, 4000, 1000, 1000)},
	} {
		c.g = primitive(c.n, c.g)
		gcd(t, c.n, product(c.n, c.g, c.a), product(c.n, c.g, c.b), c.g)
	}
}

// What is sought has corners in no direction with weights from -1 to 1 here.
func TestCornersThatAreFar(t *testing.T) {
	var factors [][]api.Term
	for _, s := range []string{"x +1", "x +y", "xy +1", "y +1", "x2 +y", "x +y2", "x2y +1", "xy2 +1"} {
		factors = append(factors, poly(2, s))
	}
	g := product(2, factors...)
	gcd(t, 2, product(2, g, g, poly(2, "x3 +y")), product(2, g, poly(2, "x +y3 +1")), g)
	radical(t, 2, product(2, g, g, poly(2, "x3 +y")), product(2, g, poly(2, "x3 +y")))
	factors = nil
	for _, s := range []string{"x +y", "xy +1", "x +1", "y +1", "x +z", "xz +1", "z +1", "y +z", "yz +1"} {
		factors = append(factors, poly(3, s))
	}
	g = product(3, factors...)
	gcd(t, 3, product(3, g, poly(3, "x2 +y +z")), product(3, g, poly(3, "z2 +xy +1")), g)
	radical(t, 3, product(3, g, g), g)
}

// P18.2

func TestRadicalOfKnownOnes(t *testing.T) {
	for _, c := range []struct {
		n          int
		a, wanted  string
		squarefree bool
	}{
		{2, "4x2y", "xy", false},
		{0, "7", "1", true},
		{0, "-4", "1", true},
		{3, "-9", "1", true},
		{1, "x", "x", true},
		{1, "-8x", "x", true},
		{1, "x1000", "x", false},
		{1, "x2 -2x +1", "x -1", false},
		{1, "4x2 -4", "x2 -1", true},
		{2, "x2 +2xy +y2", "x +y", false},
		{2, "-x2 -2xy -y2", "x +y", false},
		{2, "12x2 -12y2", "x2 -y2", true},
		{2, "x3 -xy2", "x3 -xy2", true},
		{2, "x3y -x2y2", "x2y -xy2", false},
		{2, "x1000y -y", "x1000y -y", true},
		{2, "x1000y2 -y2", "x1000y -y", false},
		{6, "x1000y1000z1000u1000v1000w1000", "xyzuvw", false},
		{6, "x1000y1000z1000u1000v1000w1000 -1", "x1000y1000z1000u1000v1000w1000 -1", true},
		{6, "x1000y1000z1000u1000v1000w1000 -2x500y500z500u500v500w500 +1", "x500y500z500u500v500w500 -1", false},
		{2, "xy +x +y +1", "xy +x +y +1", true},
		{2, "x2 +1", "x2 +1", true},
		{2, "y2 +2y +1", "y +1", false},
		{3, "z3 +3z2 +3z +1", "z +1", false},
	} {
		radical(t, c.n, poly(c.n, c.a), poly(c.n, c.wanted))
		is(t, c.n, poly(c.n, c.a), c.squarefree)
	}
}

// Of small ones: each that is not constant divides the radical, or no power of it, and its square does so just if it is not squarefree.
func TestRadicalOfSmallOnes(t *testing.T) {
	for _, c := range []struct {
		n     int
		lists [][]api.Term
	}{{1, all(1, 2, 2)}, {2, all(2, 1, 1)}} {
		for _, a := range c.lists {
			if len(a) == 0 {
				continue
			}
			whole, rest := true, unit(c.n)
			for _, f := range irreducibles(c.n) {
				if _, goes := quotient(c.n, a, f); goes {
					rest = times(c.n, rest, f)
					_, twice := quotient(c.n, a, times(c.n, f, f))
					whole = whole && !twice
				}
			}
			r, e := mgcd.Radical(c.n, a)
			if _, goes := quotient(c.n, r, rest); e != api.OK || !goes {
				t.Fatalf("%s: %s, %v, not a multiple of %s", said("Radical", c.n, a), text(r), e, text(rest))
			}
			if _, goes := quotient(c.n, a, r); !goes || r[0].C.Neg {
				t.Fatalf("%s: %s, which does not divide it", said("Radical", c.n, a), text(r))
			}
			is(t, c.n, a, whole)
		}
	}
}

func TestRadicalOfProducts(t *testing.T) {
	m := newMaker(5)
	for range 1000 {
		n := 1 + m.IntN(api.MaxVars)
		factors, often, _ := m.drawn(n)
		once := make([]int, len(factors))
		for k := range once {
			once[k] = min(often[k], 1)
		}
		a := made(n, 12-24*m.IntN(2), factors, often)
		if len(a) < 1500 {
			radical(t, n, m.mixed(a), made(n, 1, factors, once))
			is(t, n, m.mixed(a), slices.Max(often) < 2)
		}
	}
}

func TestRadicalOfLongOnes(t *testing.T) {
	m := newMaker(6)
	raised := func(n int, s string, k int) []api.Term {
		return product(n, slices.Repeat([][]api.Term{poly(n, s)}, k)...)
	}
	for _, c := range []struct {
		n         int
		a, wanted []api.Term
	}{
		{1, raised(1, "x -1", 1000), poly(1, "x -1")},
		{2, raised(2, "x +y", 1000), poly(2, "x +y")},
		{2, product(2, raised(2, "x +1", 63), raised(2, "y +1", 63)), poly(2, "xy +x +y +1")},
		{2, raised(2, "3x +5y +7", 40), poly(2, "3x +5y +7")},
		{3, raised(3, "x +y +z +1", 27), poly(3, "x +y +z +1")},
		{2, product(2, raised(2, "x +1", 60), raised(2, "x -y", 20), raised(2, "x2 +y", 3)), product(2, poly(2, "x2 +y"), poly(2, "x2 -xy +x -y"))},
	} {
		radical(t, c.n, c.a, c.wanted)
		is(t, c.n, c.a, false)
	}
	for _, c := range []struct{ n, terms, high int }{{2, 30, 20}, {3, 40, 60}, {6, 50, 300}, {6, 5, 30}} {
		a := primitive(c.n, m.sparse(c.n, c.terms, c.high, 1000))
		radical(t, c.n, product(c.n, a, a), a)
		is(t, c.n, product(c.n, a, a), false)
		is(t, c.n, a, true)
	}
	long := primitive(6, m.sparse(6, 4000, 900, 1000))
	radical(t, 6, long, long)
	is(t, 6, long, true)
}

// The errors

func TestWrongOnes(t *testing.T) {
	fine := []api.Term{term(1, 0, 1)}
	for _, c := range []struct {
		n int
		a []api.Term
	}{
		{-1, nil}, {7, nil}, {2, []api.Term{term(1, 0)}}, {2, []api.Term{term(1, 0, 0, 0)}}, {2, []api.Term{term(1, -1, 0)}}, {2, []api.Term{term(1, 0, 1001)}},
		{2, []api.Term{term(0, 1001, 0)}}, {2, []api.Term{term(0)}}, {2, slices.Repeat(fine, api.MaxTerms+1)}, {0, fine},
	} {
		z, e := mgcd.Gcd(c.n, c.a, nil)
		refuse(t, said("Gcd", c.n, c.a, nil), z, e, api.ErrArg)
		z, e = mgcd.Gcd(c.n, nil, c.a)
		refuse(t, said("Gcd", c.n, nil, c.a), z, e, api.ErrArg)
		z, e = mgcd.Gcd(c.n, fine, c.a)
		refuse(t, said("Gcd", c.n, fine, c.a), z, e, api.ErrArg)
		z, e = mgcd.Radical(c.n, c.a)
		refuse(t, said("Radical", c.n, c.a), z, e, api.ErrArg)
		if z, e := mgcd.Is(c.n, c.a); z || e != api.ErrArg {
			t.Errorf("%s: %v, %v", said("Is", c.n, c.a), z, e)
		}
	}
}

func TestNought(t *testing.T) {
	for n := range api.MaxVars + 1 {
		high := slices.Repeat([]int{api.MaxExp}, n)
		for _, a := range [][]api.Term{nil, {}, {term(0, high...)}, {term(4, high...), term(-4, high...)}} {
			z, e := mgcd.Radical(n, a)
			refuse(t, said("Radical", n, a), z, e, api.ErrNought)
			if z, e := mgcd.Is(n, a); z || e != api.ErrNought {
				t.Errorf("%s: %v, %v", said("Is", n, a), z, e)
			}
			gcd(t, n, a, nil, nil)
			gcd(t, n, a, []api.Term{term(-3, high...)}, []api.Term{term(3, high...)})
			gcd(t, n, []api.Term{term(-3, high...)}, a, []api.Term{term(3, high...)})
		}
	}
}

// row is 1 and the variable's powers below the count.
func row(n, i, count int) []api.Term {
	a := make([]api.Term, count)
	for k := range a {
		a[k] = term(1, make([]int, n)...)
		a[k].E[i] = k
	}
	return a
}

// less is a variable's power less 1.
func less(n, i, high int) []api.Term { return poly(n, fmt.Sprintf("%c%d -1", letters[i], high)) }

func TestGcdHasAtMostSoManyTerms(t *testing.T) {
	for _, c := range []struct{ x, y int }{{64, 64}, {8, 512}, {5, 819}, {63, 65}, {17, 240}} {
		g := product(2, row(2, 0, c.x), row(2, 1, c.y))
		gcd(t, 2, product(2, less(2, 0, c.x), row(2, 1, c.y)), product(2, row(2, 0, c.x), less(2, 1, c.y)), g)
	}
	for _, c := range []struct{ x, y int }{{17, 241}, {241, 17}, {65, 64}, {1000, 5}, {900, 900}} {
		z, e := mgcd.Gcd(2, product(2, less(2, 0, c.x), row(2, 1, c.y)), product(2, row(2, 0, c.x), less(2, 1, c.y)))
		refuse(t, fmt.Sprintf("Gcd, %d by %d terms", c.x, c.y), z, e, api.ErrLimit)
	}
	for n := 1; n <= api.MaxVars; n++ {
		a, b, g := unit(n), unit(n), unit(n)
		for i := range n {
			a = product(n, a, less(n, i, 930))
			b = product(n, b, less(n, i, 30), less(n, i, 31))
			if n < 3 {
				g = product(n, g, less(n, i, 30), row(n, i, 31))
			}
		}
		z, e := mgcd.Gcd(n, a, b)
		if n < 3 {
			want(t, said("Gcd", n, a, b), z, e, g)
		} else {
			refuse(t, said("Gcd", n, a, b), z, e, api.ErrLimit)
		}
	}
}

func TestRadicalHasAtMostSoManyTerms(t *testing.T) {
	for _, c := range []struct{ x, y int }{{32, 32}, {16, 64}, {25, 41}, {41, 25}, {300, 400}} {
		a := product(2, less(2, 0, c.x), less(2, 0, c.x+1), less(2, 1, c.y), less(2, 1, c.y+1))
		z, e := mgcd.Radical(2, a)
		if 4*c.x*c.y > api.MaxTerms {
			refuse(t, said("Radical", 2, a), z, e, api.ErrLimit)
		} else {
			want(t, said("Radical", 2, a), z, e, product(2, row(2, 0, c.x), less(2, 0, c.x+1), row(2, 1, c.y), less(2, 1, c.y+1)))
		}
		is(t, 2, a, false)
	}
	for n := 3; n <= api.MaxVars; n++ {
		a := unit(n)
		for i := range n {
			a = product(n, a, less(n, i, 30), less(n, i, 31))
		}
		z, e := mgcd.Radical(n, a)
		refuse(t, said("Radical", n, a), z, e, api.ErrLimit)
		is(t, n, a, false)
	}
}

// A polynomial may have fewer terms than what is in it twice: squares of 12 and 28 terms have roots of 13 and 29.
func TestMoreTermsTwiceThanMayBe(t *testing.T) {
	few := func(n, i int) []api.Term {
		x := letters[i : i+1]
		return times(n, poly(n, strings.ReplaceAll("125x6 +50x5 -10x4 +4x3 -2x2 +2x +1", "x", x)), poly(n, strings.ReplaceAll("-110x6 +1", "x", x)))
	}
	many := func(n, i int) []api.Term {
		x := letters[i : i+1]
		return times(n, poly(n, strings.ReplaceAll("4x4 +4x3 -2x2 +2x +1", "x", x)), poly(n, strings.ReplaceAll("-84x24 +28x20 -10x16 +4x12 -2x8 +2x4 +1", "x", x)))
	}
	root := product(2, few(2, 0), many(2, 1))
	a := product(2, root, root)
	if len(root) != 13*29 || len(a) != 12*28 {
		t.Fatalf("%d terms, of the square %d", len(root), len(a))
	}
	radical(t, 2, a, upright(2, root))
	is(t, 2, a, false)
	gcd(t, 2, a, product(2, root, poly(2, "x +y")), upright(2, root))
	a = product(3, times(3, few(3, 0), few(3, 0)), times(3, few(3, 1), few(3, 1)), times(3, many(3, 2), many(3, 2))) // of a root with 4901 terms
	if len(a) != 12*12*28 {
		t.Fatalf("%d terms", len(a))
	}
	z, e := mgcd.Radical(3, a)
	refuse(t, "Radical of the square of 4901 terms", z, e, api.ErrLimit)
	is(t, 3, a, false)
	is(t, 3, product(3, few(3, 0), few(3, 0), many(3, 2), many(3, 2)), false)
	is(t, 3, product(3, few(3, 1), many(3, 2)), true)
}

// Of what has fewer terms than the quotients on the way: these may be as long as they like.
func TestLongOnTheWay(t *testing.T) {
	for n := 2; n <= 4; n++ {
		a, b, wanted := unit(n), unit(n), unit(n)
		for i := range n {
			a = product(n, a, less(n, i, 930))
			b = product(n, b, less(n, i, 1))
			wanted = product(n, wanted, less(n, i, 930))
		}
		gcd(t, n, a, b, upright(n, b))
		gcd(t, n, product(n, a, poly(n, "x +y")), product(n, b, poly(n, "x -y")), upright(n, b))
		if n < 4 {
			for i := range n {
				a = product(n, a, less(n, i, 30), less(n, i, 31))
			}
			radical(t, n, a, wanted)
			is(t, n, a, false)
		}
	}
}
