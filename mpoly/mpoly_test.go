package mpoly_test

import (
	"math"
	"math/big"
	"slices"
	"testing"

	"cleaver/api"
	"cleaver/mpoly"
)

// P17.1

func TestSums(t *testing.T) {
	pairs(func(n int, a, b []api.Term) {
		z, e := mpoly.Norm(n, a)
		want(t, said("Norm", n, a), z, e, norm(n, a))
		z, e = mpoly.Add(n, a, b)
		want(t, said("Add", n, a, b), z, e, plusTimes(n, a, 1, b))
		z, e = mpoly.Sub(n, a, b)
		want(t, said("Sub", n, a, b), z, e, plusTimes(n, a, -1, b))
		z, e = mpoly.Mul(n, a, b)
		want(t, said("Mul", n, a, b), z, e, times(n, a, b))
	})
}

func TestSomeByHand(t *testing.T) {
	sum, difference := poly(2, "x +y"), poly(2, "x -y")
	z, e := mpoly.Mul(2, sum, difference)
	want(t, "Mul", z, e, poly(2, "x2 -y2"))
	z, e = mpoly.Add(2, sum, difference)
	want(t, "Add", z, e, poly(2, "2x"))
	z, e = mpoly.Sub(2, sum, difference)
	want(t, "Sub", z, e, poly(2, "2y"))
	z, e = mpoly.Norm(3, poly(3, "4 +z2 -y +xz +xy +0yz +x2 -4 +2y"))
	want(t, "Norm", z, e, poly(3, "x2 +xy +xz +y +z2"))
}

func TestConst(t *testing.T) {
	for n := range api.MaxVars + 1 {
		for _, c := range numbers() {
			z, e := mpoly.Const(n, c)
			want(t, said("Const", n, c), z, e, norm(n, []api.Term{{C: c, E: make([]int, n)}}))
		}
	}
	for _, n := range []int{-1, api.MaxVars + 1, math.MinInt, math.MaxInt} {
		z, e := mpoly.Const(n, small(1))
		refuse(t, said("Const", n), z, e, api.ErrArg)
	}
}

func TestVar(t *testing.T) {
	for n := -1; n <= api.MaxVars+1; n++ {
		for i := -1; i <= api.MaxVars+1; i++ {
			z, e := mpoly.Var(n, i)
			if n < 0 || n > api.MaxVars || i < 0 || i >= n {
				refuse(t, said("Var", n, i), z, e, api.ErrArg)
			} else {
				want(t, said("Var", n, i), z, e, poly(n, letters[i:i+1]))
			}
		}
	}
	for _, i := range []int{math.MinInt, math.MaxInt} {
		z, e := mpoly.Var(3, i)
		refuse(t, said("Var", 3, i), z, e, api.ErrArg)
		z, e = mpoly.Var(i, 0)
		refuse(t, said("Var", i, 0), z, e, api.ErrArg)
	}
}

// wrong are those that may not be, of two variables or of so many as are told; right are some that may.
func wrong() []struct {
	n int
	a []api.Term
} {
	return []struct {
		n int
		a []api.Term
	}{
		{-1, nil}, {7, nil}, {math.MinInt, nil}, {math.MaxInt, nil}, {7, []api.Term{term(1, 0, 0, 0, 0, 0, 0, 0)}},
		{2, []api.Term{term(1)}}, {2, []api.Term{term(1, 0)}}, {2, []api.Term{term(1, 0, 0, 0)}}, {0, []api.Term{term(1, 0)}}, {2, []api.Term{term(1, 0, 0), term(0, 0)}}, {2, []api.Term{{}}},
		{2, []api.Term{term(1, 0, -1)}}, {2, []api.Term{term(1, -1, 0)}}, {2, []api.Term{term(1, 1001, 0)}}, {2, []api.Term{term(1, 0, 1001)}}, {2, []api.Term{term(1, 0, math.MinInt)}},
		{2, []api.Term{term(1, math.MaxInt, 0)}}, {2, []api.Term{term(1, 1<<16, 0)}}, {2, []api.Term{term(0, 0, 1001)}}, {2, []api.Term{term(1, 0, 1001), term(-1, 0, 1001)}},
		{2, append(grid(2, 63), term(-1, 0, 0))}, {1, slices.Repeat([]api.Term{term(0, 5)}, 4097)},
	}
}

func right() []struct {
	n int
	a []api.Term
} {
	return []struct {
		n int
		a []api.Term
	}{
		{0, nil}, {6, nil}, {2, []api.Term{term(1, 1000, 1000)}}, {0, []api.Term{term(5)}}, {0, []api.Term{term(5, []int{}...), term(5)}}, {6, []api.Term{term(1, 0, 1000, 0, 1000, 0, 1000)}},
		{2, []api.Term{{C: api.Int{Neg: true, Abs: []uint64{0}}, E: []int{3, 3}}}}, {2, grid(2, 63)}, {1, slices.Repeat([]api.Term{term(1, 5)}, 4096)},
	}
}

// grid has all terms of n variables with exponents up to high, as terms go, each once.
func grid(n, high int) []api.Term {
	a := []api.Term{term(1)}
	for range n {
		var longer []api.Term
		for _, t := range a {
			for e := high; e >= 0; e-- {
				longer = append(longer, term(1, append(slices.Clone(t.E), e)...))
			}
		}
		a = longer
	}
	return a
}

func TestCheck(t *testing.T) {
	for _, c := range wrong() {
		if e := mpoly.Check(c.n, c.a); e != api.ErrArg {
			t.Errorf("%s: %v", said("Check", c.n, c.a), e)
		}
	}
	for _, c := range right() {
		if e := mpoly.Check(c.n, c.a); e != api.OK {
			t.Errorf("%s: %v", said("Check", c.n, c.a), e)
		}
	}
}

// calls are all that take polynomials and tell errors, by name; of two polynomials each stands at both places.
func calls(n int, a, fit []api.Term, i int) map[string]func() ([]api.Term, api.Errno) {
	return map[string]func() ([]api.Term, api.Errno){
		"Norm":        func() ([]api.Term, api.Errno) { return mpoly.Norm(n, a) },
		"Add, first":  func() ([]api.Term, api.Errno) { return mpoly.Add(n, a, fit) },
		"Add, second": func() ([]api.Term, api.Errno) { return mpoly.Add(n, fit, a) },
		"Sub, first":  func() ([]api.Term, api.Errno) { return mpoly.Sub(n, a, fit) },
		"Sub, second": func() ([]api.Term, api.Errno) { return mpoly.Sub(n, fit, a) },
		"Mul, first":  func() ([]api.Term, api.Errno) { return mpoly.Mul(n, a, fit) },
		"Mul, second": func() ([]api.Term, api.Errno) { return mpoly.Mul(n, fit, a) },
		"Div, first":  func() ([]api.Term, api.Errno) { return mpoly.Div(n, a, fit) },
		"Div, second": func() ([]api.Term, api.Errno) { return mpoly.Div(n, fit, a) },
		"Deriv":       func() ([]api.Term, api.Errno) { return mpoly.Deriv(n, a, i) },
		"Eval":        func() ([]api.Term, api.Errno) { return mpoly.Eval(n, a, i, small(2)) },
		"Degree": func() ([]api.Term, api.Errno) {
			d, e := mpoly.Degree(n, a, i)
			return []api.Term{term(d)}[:min(d*d, 1)], e
		},
		"Prim": func() ([]api.Term, api.Errno) {
			c, z, e := mpoly.Prim(n, a)
			return append(z, api.Term{C: c})[:len(z)+min(len(c.Abs), 1)], e
		},
	}
}

// That a polynomial may not be is told first, even beside nought to divide by.
func TestWhatMayNotBe(t *testing.T) {
	for _, c := range wrong() {
		for name, call := range calls(c.n, c.a, nil, 0) {
			a, e := call()
			refuse(t, said(name, c.n, c.a), a, e, api.ErrArg)
		}
	}
}

func TestNoSuchVariable(t *testing.T) {
	for _, n := range []int{0, 1, 2, 6} {
		for _, i := range []int{-1, n, n + 1, 6, math.MinInt, math.MaxInt} {
			if i >= 0 && i < n {
				continue
			}
			for _, name := range []string{"Deriv", "Eval", "Degree"} {
				a, e := calls(n, []api.Term{term(3, make([]int, n)...)}, nil, i)[name]()
				refuse(t, said(name, n, i), a, e, api.ErrArg)
			}
		}
	}
}

// What is answered may have 4096 terms and exponents of 1000, and no more; what falls out on the way says nothing.
func TestLimitOfSums(t *testing.T) {
	full, other := grid(2, 63), poly(2, "x64 +x63y63")
	z, e := mpoly.Add(2, full, nil)
	want(t, "Add of 4096 terms", z, e, full)
	z, e = mpoly.Add(2, full, other[:1])
	refuse(t, "Add to 4097 terms", z, e, api.ErrLimit)
	z, e = mpoly.Sub(2, full, other[:1])
	refuse(t, "Sub to 4097 terms", z, e, api.ErrLimit)
	z, e = mpoly.Sub(2, full, other)
	want(t, "Sub of one, and one less", z, e, plusTimes(2, full, -1, other))
	z, e = mpoly.Sub(2, full, full)
	want(t, "Sub of the same", z, e, nil)
}

func TestLimitOfProducts(t *testing.T) {
	for _, c := range []struct {
		what string
		n    int
		a, b []api.Term
		e    api.Errno
	}{
		{"1000", 2, poly(2, "x600y +1"), poly(2, "x400 +1"), api.OK},
		{"1001, the first variable", 2, poly(2, "x600y +1"), poly(2, "x401 +1"), api.ErrLimit},
		{"1001, the second one", 2, poly(2, "x +y600"), poly(2, "y401 +x"), api.ErrLimit},
		{"1000 of both, no term has both", 2, poly(2, "x600 +y600"), poly(2, "x400 -y400"), api.OK},
		{"2000", 1, poly(1, "x1000"), poly(1, "x1000"), api.ErrLimit},
		{"by nought", 1, poly(1, "x1000"), poly(1, "x1000 -x1000"), api.OK},
		{"none that is above", 1, poly(1, "x1000 -x1000 +x"), poly(1, "x999"), api.OK},
		{"4096 terms", 2, grid(2, 63), poly(2, "-7xy"), api.OK},
		{"4096 terms, a product", 2, row(0, 64), row(1, 64), api.OK},
		{"4160 terms", 2, row(0, 65), row(1, 64), api.ErrLimit},
		{"4097 terms", 6, grid(6, 3), poly(6, "x4 -x3w +x3"), api.ErrLimit},
		{"less than on the way", 2, times(2, row(0, 64), row(1, 64)), poly(2, "x -1"), api.OK},
		{"less than on the way", 6, poly(6, "x -1"), grid(6, 3), api.OK},
	} {
		z, e := mpoly.Mul(c.n, c.a, c.b)
		if c.e != api.OK {
			refuse(t, c.what, z, e, c.e)
		} else {
			want(t, c.what, z, e, times(c.n, c.a, c.b))
		}
		if back, number := mpoly.Mul(c.n, c.b, c.a); number != e || !same(back, z) {
			t.Errorf("%s: the other way round: %v", c.what, number)
		}
	}
}

// row is the sum of the first so many powers of a variable of two.
func row(i, terms int) []api.Term {
	var a []api.Term
	for e := range terms {
		t := term(1, 0, 0)
		t.E[i] = e
		a = append(a, t)
	}
	return a
}

// A refusal of a product does not wait for all of it, and a product of few terms is told of all.
func TestLongProducts(t *testing.T) {
	m := newMaker(2)
	a, b := make([]api.Term, api.MaxTerms), make([]api.Term, api.MaxTerms)
	for _, l := range [][]api.Term{a, b} {
		for k := range l {
			l[k] = term(1, m.IntN(500), m.IntN(500), m.IntN(500), m.IntN(500), m.IntN(500), m.IntN(500))
		}
	}
	z, e := mpoly.Mul(6, a, b)
	refuse(t, "Mul of 4096 terms each", z, e, api.ErrLimit)
	long, short := row(0, 1000), poly(2, "x -1")
	z, e = mpoly.Mul(2, long, short)
	want(t, "x^1000 - 1", z, e, poly(2, "x1000 -1"))
	z, e = mpoly.Mul(2, row(0, 500), row(0, 501))
	want(t, "500 terms, 501", z, e, times(2, row(0, 500), row(0, 501)))
}

// Order

func TestLess(t *testing.T) {
	rising := [][]api.Term{ // each stands ahead of all behind it
		nil, poly(2, "-5"), poly(2, "y"), poly(2, "y -7"), poly(2, "y -1"), poly(2, "y +1"), poly(2, "2y"), poly(2, "y2"), poly(2, "-x"), poly(2, "x"), poly(2, "x +1"), poly(2, "x +y"),
		poly(2, "x +y +1"), poly(2, "xy -9"), poly(2, "x2"),
	}
	for i, a := range rising {
		for j, b := range rising {
			if mpoly.Less(a, b) != (i < j) {
				t.Errorf("%s: %v", said("Less", a, b), i >= j)
			}
		}
	}
}

// Order is of what stands there: terms that would fall together, or go elsewhere, and numbers that may be anything.
func TestLessAsTheyStand(t *testing.T) {
	for _, c := range []struct {
		a, b []api.Term
		less bool
	}{
		{poly(1, "1 +x"), poly(1, "x +1"), true}, {poly(1, "x +1"), poly(1, "1 +x"), false}, {poly(1, "0"), nil, false}, {nil, poly(1, "0"), true}, {poly(1, "x +x"), poly(1, "2x"), true}, {poly(1, "2x"), poly(1, "x +x"), false},
		{[]api.Term{term(5)}, []api.Term{term(5, 1)}, false}, {[]api.Term{term(5, 1)}, []api.Term{term(5)}, false}, {[]api.Term{term(5, 1)}, []api.Term{term(6)}, true}, {[]api.Term{term(6)}, []api.Term{term(5, 1)}, false},
		{[]api.Term{term(5, 1, 0)}, []api.Term{term(5, 1)}, false}, {[]api.Term{term(5, 1, 7)}, []api.Term{term(5, 2)}, true}, {[]api.Term{term(5, 2)}, []api.Term{term(5, 1, 7)}, false},
		{[]api.Term{term(5, 1, 7), term(1)}, []api.Term{term(5, 1), term(2)}, true}, {[]api.Term{term(5, 1)}, []api.Term{term(5, 1, 3), term(-1)}, true},
		{[]api.Term{term(1, -5)}, []api.Term{term(1, 0)}, true}, {[]api.Term{term(1, math.MinInt)}, []api.Term{term(1, math.MaxInt)}, true}, {[]api.Term{term(1, math.MaxInt)}, []api.Term{term(1, math.MinInt)}, false},
		{[]api.Term{term(1, 0, 0, 0, 0, 0, 0, 0, 1)}, []api.Term{term(1, 0, 0, 0, 0, 0, 0, 0, 2)}, true},
		{[]api.Term{{C: api.Int{Neg: true}}}, []api.Term{{C: api.Int{Abs: []uint64{0}}}}, false}, {[]api.Term{{C: api.Int{Abs: []uint64{0}}}}, []api.Term{{C: api.Int{Neg: true}}}, false},
		{[]api.Term{{C: api.Int{Abs: []uint64{7, 0}}}}, []api.Term{{C: api.Int{Abs: []uint64{0, 1}}}}, true}, {[]api.Term{{C: api.Int{Neg: true, Abs: []uint64{0, 1}}}}, []api.Term{{C: api.Int{Neg: true, Abs: []uint64{7, 0}}}}, true},
		{[]api.Term{{C: api.Int{Abs: []uint64{7, 0}}}, term(1)}, []api.Term{{C: api.Int{Abs: []uint64{7}}}, term(2)}, true},
	} {
		if less := mpoly.Less(c.a, c.b); less != c.less {
			t.Errorf("%s: %v", said("Less", c.a, c.b), less)
		}
	}
}

// P17.3

func TestDeriv(t *testing.T) {
	pairs(func(n int, a, _ []api.Term) {
		for i := range n {
			s := sums{}
			for _, t := range a {
				if at := key(t.E); at[i] > 0 {
					at[i]--
					s.add(at, new(big.Int).Mul(value(t.C), big.NewInt(int64(t.E[i]))))
				}
			}
			z, e := mpoly.Deriv(n, a, i)
			want(t, said("Deriv", n, a, i), z, e, plain(n, s))
		}
	})
	z, e := mpoly.Deriv(2, poly(2, "x3y2 -5x +y +7"), 0)
	want(t, "Deriv by x", z, e, poly(2, "3x2y2 -5"))
	z, e = mpoly.Deriv(2, poly(2, "x3y2 -5x +y +7"), 1)
	want(t, "Deriv by y", z, e, poly(2, "2x3y +1"))
	z, e = mpoly.Deriv(1, poly(1, "-x1000"), 0)
	want(t, "Deriv of the highest", z, e, poly(1, "-1000x999"))
}

func TestEval(t *testing.T) {
	m := newMaker(3)
	pairs(func(n int, a, _ []api.Term) {
		for i := range n {
			x := m.number()
			s := sums{}
			for _, t := range a {
				at := key(t.E)
				v := new(big.Int).Exp(value(x), big.NewInt(int64(at[i])), nil)
				at[i] = 0
				s.add(at, v.Mul(v, value(t.C)))
			}
			z, e := mpoly.Eval(n, a, i, x)
			want(t, said("Eval", n, a, i, x), z, e, plain(n, s))
		}
	})
	a := poly(2, "x3y2 -5x +2x2y +y +7")
	for _, c := range []struct {
		i, x int
		z    string
	}{{0, 0, "y +7"}, {0, 1, "y2 +3y +2"}, {0, -2, "-8y2 +9y +17"}, {1, 0, "-5x +7"}, {1, 1, "x3 +2x2 -5x +8"}, {1, -1, "x3 -2x2 -5x +6"}} {
		z, e := mpoly.Eval(2, a, c.i, small(c.x))
		want(t, said("Eval", c.i, c.x), z, e, poly(2, c.z))
	}
}

// Powers that zint refuses are powers here, and those that are the same make one term.
func TestEvalOfGreatPowers(t *testing.T) {
	x := num("-0x1234567890abcdef_1234567890abcdef_1234567890abcdef_1234567890abcdef_1234567890abcdef")
	a := poly(2, "2x1000y -x1000y +3x999 -x7 +x5 +y +4")
	z, e := mpoly.Eval(2, a, 0, x)
	power := func(n int64) *big.Int { return new(big.Int).Exp(value(x), big.NewInt(n), nil) }
	rest := new(big.Int).Add(new(big.Int).Mul(power(999), big.NewInt(3)), big.NewInt(4))
	rest.Sub(rest, power(7)).Add(rest, power(5))
	want(t, "Eval", z, e, []api.Term{{C: of(power(1000).Add(power(1000), big.NewInt(1))), E: []int{0, 1}}, {C: of(rest), E: []int{0, 0}}})
	z, e = mpoly.Eval(1, poly(1, "x1000 -x999"), 0, num("0x8000000000000000_0000000000000000_0000000000000000_0000000000000000_0000000000000000"))
	if e != api.OK || len(z) != 1 || value(z[0].C).BitLen() != 319_000 {
		t.Errorf("Eval of a great power: %v", e)
	}
}

func TestDegree(t *testing.T) {
	pairs(func(n int, a, _ []api.Term) {
		for i := range n {
			d := -1
			for _, t := range norm(n, a) {
				d = max(d, t.E[i])
			}
			if got, e := mpoly.Degree(n, a, i); e != api.OK || got != d {
				t.Fatalf("%s: %d, %v, not %d", said("Degree", n, a, i), got, e, d)
			}
		}
	})
	for i, d := range []int{1000, 3, 0} {
		if got, e := mpoly.Degree(3, poly(3, "x1000 +y3 +1 +z7 -z7"), i); got != d || e != api.OK {
			t.Errorf("Degree by %d: %d, %v", i, got, e)
		}
	}
}

// P17.4

func TestPrim(t *testing.T) {
	m := newMaker(4)
	check := func(n int, a []api.Term) {
		c, l := content(norm(n, a)), norm(n, a)
		if len(l) > 0 && l[0].C.Neg {
			c.Neg(c)
		}
		s := sums{}
		for _, t := range l {
			s.add(key(t.E), new(big.Int).Quo(value(t.C), c))
		}
		got, q, e := mpoly.Prim(n, a)
		want(t, said("Prim", n, a), q, e, plain(n, s))
		if !sameInt(got, of(c)) {
			t.Fatalf("%s: %v, not %v", said("Prim", n, a), value(got), c)
		}
	}
	pairs(func(n int, a, _ []api.Term) {
		check(n, a)
		check(n, times(n, a, []api.Term{{C: m.number(), E: make([]int, n)}}))
	})
	c, q, e := mpoly.Prim(2, poly(2, "4y -2x"))
	want(t, "Prim", q, e, poly(2, "x -2y"))
	if !sameInt(c, small(-2)) {
		t.Errorf("Prim: %v", c)
	}
}
