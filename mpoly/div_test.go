package mpoly_test

import (
	"fmt"
	"testing"

	"cleaver/api"
	"cleaver/mpoly"
)

// P17.2

// checkDiv holds an answer against what is told by hand; its exponents must be small ones.
func checkDiv(t *testing.T, n int, a, b []api.Term) {
	t.Helper()
	z, e := mpoly.Div(n, a, b)
	if len(norm(n, b)) == 0 {
		refuse(t, said("Div", n, a, b), z, e, api.ErrZero)
	} else if q, ok := quotient(n, a, b); ok {
		want(t, said("Div", n, a, b), z, e, q)
	} else {
		refuse(t, said("Div", n, a, b), z, e, api.ErrExact)
	}
}

func TestDivOfSome(t *testing.T) {
	for _, c := range []struct {
		n       int
		a, b, q string
	}{
		{2, "x2 -y2", "x +y", "x -y"}, {2, "x2 -y2", "y -x", "-x -y"}, {2, "x2y +xy2", "xy", "x +y"}, {2, "6x -4y", "-2", "-3x +2y"}, {2, "", "x", ""}, {2, "x -x", "3", ""}, {2, "x -y", "x -y", "1"},
		{2, "x -y", "y -x", "-1"}, {1, "x6 -1", "x2 -1", "x4 +x2 +1"}, {1, "x6 -1", "x2 +x +1", "x4 -x3 +x -1"}, {0, "6", "-3", "-2"}, {3, "x3 +y3 +z3 -3xyz", "z +y +x", "x2 -xy -xz +y2 -yz +z2"},
		{6, "xyzuvw -w", "w", "xyzuv -1"}, {2, "x1000y1000", "x1000", "y1000"}, {2, "x4 +4y4", "2y2 -2xy +x2", "x2 +2xy +2y2"},
	} {
		z, e := mpoly.Div(c.n, poly(c.n, c.a), poly(c.n, c.b))
		want(t, said("Div", c.a, "by", c.b), z, e, poly(c.n, c.q))
	}
}

// A rest is left, or a number that is none of the integers, or an exponent below 0: at the first term, in the midst, or at the very end.
func TestDivIsNotExact(t *testing.T) {
	for _, c := range []struct {
		n    int
		a, b string
	}{
		{2, "x2 +y2", "x +y"}, {2, "x", "y"}, {2, "x", "x2"}, {2, "y", "x"}, {2, "y5", "x +y"}, {2, "3x", "2x"}, {2, "2x +3y", "2"}, {2, "2x2 +3xy", "2x"}, {0, "3", "2"}, {0, "2", "4"}, {2, "1", "x"}, {2, "x2y", "xy2"},
		{2, "x2 +xy +1", "x"}, {2, "x2 +xy +x +y +1", "x +y"}, {2, "x2 +2xy +y2 +1", "x +1"}, {1, "x3 -1", "x +1"}, {3, "x3 +y3 +z3 -2xyz", "x +y +z"}, {2, "x1000y1000", "x +y"}, {2, "x1000 -y999", "x -y"},
		{6, "x1000y1000z1000u1000v1000w1000", "xyzuvw -1"}, {1, "x2 -1", "2x -2"}, {2, "x2 -y2", "2x +2y"}, {2, "y -1", "x -1"}, {2, "x2 -1", "xy -1"}, {2, "xy", "x -y"},
	} {
		z, e := mpoly.Div(c.n, poly(c.n, c.a), poly(c.n, c.b))
		refuse(t, said("Div", c.a, "by", c.b), z, e, api.ErrExact)
	}
}

// Nought by nought is a division by nought, too; that something may not be comes first.
func TestDivByNought(t *testing.T) {
	for n := range api.MaxVars + 1 {
		for _, a := range edges(n) {
			for _, b := range edges(n)[:5] {
				z, e := mpoly.Div(n, a, b)
				refuse(t, said("Div", n, a, b), z, e, api.ErrZero)
			}
		}
	}
	z, e := mpoly.Div(1, poly(2, "x"), poly(1, "x -x"))
	refuse(t, "Div of what may not be by nought", z, e, api.ErrArg)
}

func TestDiv(t *testing.T) {
	for n := range 3 {
		for _, a := range edges(n) {
			for _, b := range edges(n) {
				checkDiv(t, n, a, b)
			}
		}
	}
	lists := all(2, 1, 2)
	for _, a := range lists {
		for _, b := range lists[:len(lists)/2+1] { // the others are these, and their opposites
			if degree(2, a) == 0 || degree(2, b) == 0 || len(a) == len(b) && len(a) < 4 {
				checkDiv(t, 2, a, b)
			}
		}
	}
	for _, a := range all(1, 3, 2) {
		for _, b := range all(1, 2, 2) {
			checkDiv(t, 1, a, b)
		}
	}
	m := newMaker(5)
	for range 400 {
		n := m.IntN(4)
		a, b := m.some(n, 5, 2), m.some(n, 3, 2)
		checkDiv(t, n, a, b)
		checkDiv(t, n, times(n, a, b), b)
		checkDiv(t, n, b, a)
	}
}

// What goes into a product comes out of it, in any number of variables.
func TestDivOfProducts(t *testing.T) {
	pairs(func(n int, a, b []api.Term) {
		if len(norm(n, b)) > 0 {
			z, e := mpoly.Div(n, times(n, a, b), b)
			want(t, said("Div of a b", n, a, b), z, e, norm(n, a))
		}
	})
	m := newMaker(6)
	for range 10 {
		a, b := m.unlike(6, 50, 300), m.unlike(6, 50, 300)
		z, e := mpoly.Div(6, times(6, a, b), b)
		want(t, "Div of a longer product", z, e, norm(6, a))
	}
}

// One coefficient of a product that is off, by little or by much, is enough to refuse it; so is one more term.
func TestDivOfWhatIsNearlyAProduct(t *testing.T) {
	m := newMaker(7)
	for range 150 {
		n := 1 + m.IntN(2)
		a, b := m.unlike(n, 5, 2), plusTimes(n, m.some(n, 4, 2), 1, []api.Term{term(7, []int{3, 3}[:n]...)})
		product := times(n, a, b)
		for _, at := range append(product, term(1, []int{4, 1}[:n]...), term(1, []int{0, 5}[:n]...)) {
			for _, off := range []api.Int{small(1), small(-7), num("0x1_0000000000000000")} {
				checkDiv(t, n, plusTimes(n, product, 1, []api.Term{{C: off, E: at.E}}), b)
			}
		}
	}
}

// A quotient of more than 4096 terms is refused, if it is one: however many terms it would have, and where it fails be it at the end of all.
func TestLimitOfQuotients(t *testing.T) {
	powers := func(n, high int) []api.Term { // the product of all variables' powers less 1
		z := poly(n, "1")
		for i := range n {
			z = times(n, z, poly(n, fmt.Sprintf("%c%d -1", letters[i], high)))
		}
		return z
	}
	for _, c := range []struct{ n, high int }{{2, 64}, {2, 65}, {2, 1000}, {3, 16}, {3, 17}, {3, 1000}, {4, 8}, {4, 9}, {6, 4}, {6, 5}, {6, 1000}} {
		a, b := powers(c.n, c.high), powers(c.n, 1)
		z, e := mpoly.Div(c.n, a, b)
		if terms := pow(c.high, c.n); terms <= api.MaxTerms {
			want(t, said("Div", c.n, c.high), z, e, grid(c.n, c.high-1))
		} else {
			refuse(t, said("Div", c.n, c.high), z, e, api.ErrLimit)
		}
		for _, off := range [][]api.Term{poly(c.n, "1"), poly(c.n, "-xy"), poly(c.n, fmt.Sprintf("x%d", c.high)), poly(c.n, "x -1"), poly(c.n, "xy -x -y +2")} {
			z, e := mpoly.Div(c.n, plusTimes(c.n, a, 3, off), b)
			refuse(t, said("Div", c.n, c.high, "and", off), z, e, api.ErrExact)
		}
		z, e = mpoly.Div(c.n, plusTimes(c.n, times(c.n, a, poly(c.n, "2")), 1, times(c.n, b, poly(c.n, "1"))), times(c.n, b, poly(c.n, "2")))
		refuse(t, said("Div", c.n, c.high, "with half a number at the end"), z, e, api.ErrExact)
		z, e = mpoly.Div(c.n, times(c.n, a, poly(c.n, "6")), times(c.n, b, poly(c.n, "-3")))
		if pow(c.high, c.n) > api.MaxTerms {
			refuse(t, said("Div", c.n, c.high, "twice"), z, e, api.ErrLimit)
		} else {
			want(t, said("Div", c.n, c.high, "twice"), z, e, times(c.n, grid(c.n, c.high-1), poly(c.n, "-2")))
		}
	}
}

func pow(x, n int) int {
	z := 1
	for range n {
		z *= x
	}
	return z
}
