package fpoly_test

import (
	"math"
	"slices"
	"testing"

	"cleaver/api"
	"cleaver/fpoly"
)

// P6.1

func TestNorm(t *testing.T) {
	for _, c := range []struct {
		a     []int
		p     int
		plain []int
	}{
		{nil, 7, nil}, {[]int{0, 0}, 7, nil}, {[]int{7, -14}, 7, nil}, {[]int{8, 0, -1, 7}, 7, []int{1, 0, 6}}, {[]int{0, 0, 3}, 2, []int{0, 0, 1}},
		{[]int{math.MinInt, math.MaxInt}, 7, []int{6}}, {[]int{math.MaxInt, math.MinInt}, 7, []int{0, 6}}, {[]int{65521, 65520, -65522}, 65521, []int{0, 65520, 65520}},
	} {
		is, e := fpoly.Norm(c.a, c.p)
		want(t, said("Norm", c.p, c.a), is, e, c.plain)
	}
	pairs(func(a, _ []int, p int) {
		is, e := fpoly.Norm(a, p)
		want(t, said("Norm", p, a), is, e, norm(a, p))
	})
}

func TestAddSubMul(t *testing.T) {
	pairs(func(a, b []int, p int) {
		sum, e := fpoly.Add(a, b, p)
		want(t, said("Add", p, a, b), sum, e, plus(a, b, p))
		difference, e := fpoly.Sub(a, b, p)
		want(t, said("Sub", p, a, b), difference, e, minus(a, b, p))
		product, e := fpoly.Mul(a, b, p)
		want(t, said("Mul", p, a, b), product, e, times(a, b, p))
	})
}

// Where the highest coefficients make nought, the answer gets shorter.
func TestEndsThatGoOut(t *testing.T) {
	sum, e := fpoly.Add([]int{1, 2, 3}, []int{1, 5, 4}, 7)
	want(t, "sum", sum, e, []int{2})
	sum, e = fpoly.Add([]int{1, 2, 3}, []int{6, 5, 4}, 7)
	want(t, "sum", sum, e, nil)
	difference, e := fpoly.Sub([]int{1, 2, 3}, []int{1, 1, 10}, 7)
	want(t, "difference", difference, e, []int{0, 1})
}

// All coefficients are -1, so the products' sums are how many they are; without rests on the way they are as great as may be.
func TestMulOfLong(t *testing.T) {
	for _, p := range []int{2, 65519, 65521} {
		a, b, wanted := make([]int, 3000), make([]int, 2000), make([]int, 4999)
		for _, l := range [][]int{a, b} {
			for i := range l {
				l[i] = p - 1
			}
		}
		for i := range wanted {
			wanted[i] = min(i+1, 2000, 4999-i) % p
		}
		product, e := fpoly.Mul(a, b, p)
		want(t, "product", product, e, wanted)
		quotient, rest, e := fpoly.Div(wanted, b, p)
		want(t, "quotient", quotient, e, a)
		want(t, "rest", rest, e, nil)
	}
}

func TestDiv(t *testing.T) {
	pairs(func(a, b []int, p int) {
		quotient, rest, e := fpoly.Div(a, b, p)
		if len(norm(b, p)) == 0 {
			wantError(t, said("Div", p, a, b), e, api.ErrZero, quotient, rest)
			return
		}
		if e != api.OK || !isPlain(quotient, p) || !isPlain(rest, p) || len(rest) >= len(norm(b, p)) {
			t.Fatalf("%s: %v, %v, %v", said("Div", p, a, b), quotient, rest, e)
		}
		if !slices.Equal(plus(times(quotient, b, p), rest, p), norm(a, p)) {
			t.Fatalf("%s: %v, %v", said("Div", p, a, b), quotient, rest)
		}
	})
}

func TestDivOfSome(t *testing.T) {
	for _, c := range []struct{ a, b, quotient, rest []int }{
		{[]int{1, 0, 0, 1}, []int{1, 2}, []int{1, 5, 4}, nil},
		{[]int{1, 0, 0, 1}, []int{8, 2, 0, 7}, []int{1, 5, 4}, nil},
		{[]int{3, 1}, []int{1, 2, 5}, nil, []int{3, 1}},
		{nil, []int{1, 2, 5}, nil, nil},
		{[]int{3, 1}, []int{2}, []int{5, 4}, nil},
		{[]int{1, 1, 1}, []int{0, 1}, []int{1, 1}, []int{1}},
		{[]int{1, 1, 1}, []int{1, 1, 1}, []int{1}, nil},
	} {
		quotient, rest, e := fpoly.Div(c.a, c.b, 7)
		want(t, said("Div", 7, c.a, c.b), quotient, e, c.quotient)
		want(t, said("Div", 7, c.a, c.b), rest, e, c.rest)
	}
}

func TestMonic(t *testing.T) {
	is, e := fpoly.Monic([]int{3, 8, 9, 7}, 7)
	want(t, "Monic", is, e, []int{5, 4, 1})
	pairs(func(a, _ []int, p int) {
		is, e := fpoly.Monic(a, p)
		want(t, said("Monic", p, a), is, e, monic(a, p))
	})
}

func TestDeriv(t *testing.T) {
	is, e := fpoly.Deriv([]int{5, 3, 0, 1, 2}, 7)
	want(t, "Deriv", is, e, []int{3, 0, 3, 1})
	is, e = fpoly.Deriv([]int{1, 1, 1, 1, 1, 1, 1}, 3)
	want(t, "Deriv", is, e, []int{1, 2, 0, 1, 2})
	is, e = fpoly.Deriv([]int{2, 0, 0, 1, 0, 0, 1}, 3)
	want(t, "Deriv", is, e, nil)
	pairs(func(a, _ []int, p int) {
		var wanted []int
		for i, c := range a {
			if i > 0 {
				wanted = append(wanted, residue(c, p)*i)
			}
		}
		is, e := fpoly.Deriv(a, p)
		want(t, said("Deriv", p, a), is, e, norm(wanted, p))
	})
}

// Exponents may be greater than p: of x^65522 the derivative is x^65521, by 65521.
func TestDerivOfLong(t *testing.T) {
	a, wanted := make([]int, 65523), make([]int, 65522)
	a[65522], a[65521], a[65520], a[0] = 1, 65520, 65520, 1
	wanted[65521], wanted[65519] = 1, 1
	is, e := fpoly.Deriv(a, 65521)
	want(t, "Deriv", is, e, wanted)
}

func TestEval(t *testing.T) {
	pairs(func(a, b []int, p int) {
		places := append([]int{0, 1, -1, p, p - 1, math.MinInt, math.MaxInt}, b...)
		for _, x := range places {
			value, power := 0, 1
			for _, c := range a {
				value, power = (value+residue(c, p)*power)%p, power*residue(x, p)%p
			}
			if is, e := fpoly.Eval(a, x, p); is != value || e != api.OK {
				t.Fatalf("%s: %d, %v, not %d", said("Eval", p, a, x), is, e, value)
			}
		}
	})
}

// By each number that is no prime all calls answer ErrArg, ahead of all that is wrong beside it: of divisions by nought, of exponents below 0.
func TestNoField(t *testing.T) {
	lists := [][]int{nil, {0}, {1}, {1, 2, 3}, {math.MinInt, math.MaxInt}}
	for _, p := range noPrimes() {
		for _, a := range lists {
			for _, b := range lists {
				for name, call := range listCalls() {
					is, e := call(a, b, p)
					wantError(t, said(name, p, a, b), e, api.ErrArg, is)
				}
				quotient, rest, e := fpoly.Div(a, b, p)
				wantError(t, said("Div", p, a, b), e, api.ErrArg, quotient, rest)
				g, s, u, e := fpoly.Bezout(a, b, p)
				wantError(t, said("Bezout", p, a, b), e, api.ErrArg, g, s, u)
				for _, n := range []api.Int{number(-5), number(0), number(3)} {
					is, e := fpoly.PowMod(a, n, b, p)
					wantError(t, said("PowMod", p, a, n, b), e, api.ErrArg, is)
				}
			}
			for _, x := range []int{math.MinInt, -1, 0, 1, p, math.MaxInt} {
				if is, e := fpoly.Eval(a, x, p); is != 0 || e != api.ErrArg {
					t.Errorf("%s: %v, %v", said("Eval", p, a, x), is, e)
				}
			}
		}
	}
}

// listCalls are the calls that answer one polynomial, which are made of one or two.
func listCalls() map[string]func(a, b []int, p int) ([]int, api.Errno) {
	of := func(call func(a []int, p int) ([]int, api.Errno)) func(a, b []int, p int) ([]int, api.Errno) {
		return func(a, _ []int, p int) ([]int, api.Errno) { return call(a, p) }
	}
	return map[string]func(a, b []int, p int) ([]int, api.Errno){
		"Norm": of(fpoly.Norm), "Add": fpoly.Add, "Sub": fpoly.Sub, "Mul": fpoly.Mul, "Monic": of(fpoly.Monic), "Gcd": fpoly.Gcd, "Deriv": of(fpoly.Deriv),
	}
}
