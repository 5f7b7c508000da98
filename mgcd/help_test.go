package mgcd_test

import (
	"fmt"
	"math"
	"math/big"
	"math/rand/v2"
	"slices"
	"strconv"
	"strings"
	"testing"

	"cleaver/api"
	"cleaver/mpoly"
)

const most = ^uint64(0)

// letters are the variables' names in the tests.
const letters = "xyzuvw"

// value is an integer as the library has it; the tests hold answers against that.
func value(a api.Int) *big.Int {
	words := make([]big.Word, len(a.Abs))
	for i, limb := range a.Abs {
		words[i] = big.Word(limb)
	}
	v := new(big.Int).SetBits(words)
	if a.Neg {
		v.Neg(v)
	}
	return v
}

// of is the plain integer of a value.
func of(v *big.Int) api.Int {
	a := api.Int{Neg: v.Sign() < 0, Abs: make([]uint64, len(v.Bits()))}
	for i, word := range v.Bits() {
		a.Abs[i] = uint64(word)
	}
	return a
}

// small is the plain integer of a number.
func small(n int) api.Int { return of(big.NewInt(int64(n))) }

// sameInt tells that two integers stand there alike, limb by limb.
func sameInt(a, b api.Int) bool { return a.Neg == b.Neg && slices.Equal(a.Abs, b.Abs) }

func sameTerm(s, t api.Term) bool { return sameInt(s.C, t.C) && slices.Equal(s.E, t.E) }

// same tells that two polynomials stand there alike, term by term.
func same(a, b []api.Term) bool { return slices.EqualFunc(a, b, sameTerm) }

// term is that of a number and exponents.
func term(c int, e ...int) api.Term { return api.Term{C: small(c), E: e} }

// poly is a polynomial of n variables, as its text has it: "x2y -3z +4" is x^2 y - 3 z + 4, in just that order.
func poly(n int, s string) []api.Term {
	var a []api.Term
	for _, f := range strings.Fields(s) {
		start := strings.IndexAny(f+"x", letters)
		number := f[:start]
		if number == "" || number == "+" || number == "-" {
			number += "1"
		}
		c, err := strconv.Atoi(number)
		if err != nil {
			panic("no term: " + f)
		}
		t := term(c, make([]int, n)...)
		for at := start; at < len(f); {
			i, digits := strings.IndexByte(letters, f[at]), 1
			for at+digits < len(f) && !strings.ContainsRune(letters, rune(f[at+digits])) {
				digits++
			}
			e, err := strconv.Atoi(f[at+1 : at+digits])
			if err != nil {
				e = 1
			}
			t.E[i], at = e, at+digits
		}
		a = append(a, t)
	}
	return a
}

// What the tests hold answers against: the library's numbers by exponents, gone through by hand.

type sums map[[api.MaxVars]int]*big.Int

func key(e []int) [api.MaxVars]int {
	at := [api.MaxVars]int{}
	copy(at[:], e)
	return at
}

func (s sums) add(at [api.MaxVars]int, v *big.Int) {
	if s[at] == nil {
		s[at] = new(big.Int)
	}
	s[at].Add(s[at], v)
}

func sumsOf(a []api.Term) sums {
	s := sums{}
	for _, t := range a {
		s.add(key(t.E), value(t.C))
	}
	return s
}

// plain is the plain polynomial of n variables of such sums.
func plain(n int, s sums) []api.Term {
	var a []api.Term
	for at, v := range s {
		if v.Sign() != 0 {
			a = append(a, api.Term{C: of(v), E: slices.Clone(at[:n])})
		}
	}
	slices.SortFunc(a, func(s, t api.Term) int { return slices.Compare(t.E, s.E) })
	return a
}

// norm is a polynomial, plain.
func norm(n int, a []api.Term) []api.Term { return plain(n, sumsOf(a)) }

// plusTimes is the polynomial of a and so many times b.
func plusTimes(n int, a []api.Term, times int64, b []api.Term) []api.Term {
	s := sumsOf(a)
	for _, t := range b {
		s.add(key(t.E), new(big.Int).Mul(value(t.C), big.NewInt(times)))
	}
	return plain(n, s)
}

// times is the product of some.
func times(n int, factors ...[]api.Term) []api.Term {
	product := []api.Term{term(1, make([]int, n)...)}
	for _, f := range factors {
		s := sums{}
		for _, t := range product {
			for _, u := range f {
				at := key(t.E)
				for i, e := range u.E {
					at[i] += e
				}
				s.add(at, new(big.Int).Mul(value(t.C), value(u.C)))
			}
		}
		product = plain(n, s)
	}
	return product
}

// quotient divides by hand: all variables as powers of one, over the fractions, and back; false: there is none. b is not nought.
func quotient(n int, a, b []api.Term) ([]api.Term, bool) {
	a, b = norm(n, a), norm(n, b)
	base := 1
	for _, t := range slices.Concat(a, b) {
		base = max(base, 2*slices.Max(append(slices.Clone(t.E), 0))+1)
	}
	rest, by := packed(n, a, base), packed(n, b, base)
	q := sums{}
	for i := len(rest) - len(by); i >= 0; i-- {
		c := new(big.Rat).Quo(rest[i+len(by)-1], by[len(by)-1])
		if !c.IsInt() {
			return nil, false
		}
		for j, v := range by {
			rest[i+j].Sub(rest[i+j], new(big.Rat).Mul(c, v))
		}
		at := [api.MaxVars]int{}
		for j, left := n-1, i; j >= 0; j, left = j-1, left/base {
			at[j] = left % base
		}
		q.add(at, c.Num())
	}
	z := plain(n, q)
	return z, same(times(n, z, b), a)
}

// packed are the coefficients of what is made of a plain polynomial by powers of one variable in the place of all.
func packed(n int, a []api.Term, base int) []*big.Rat {
	var l []*big.Rat
	for _, t := range a {
		at := 0
		for i := range n {
			at = at*base + t.E[i]
		}
		for len(l) <= at {
			l = append(l, new(big.Rat))
		}
		l[at].SetInt(value(t.C))
	}
	return l
}

// want fails, unless a call answered that polynomial, term by term.
func want(t *testing.T, what string, a []api.Term, e api.Errno, wanted []api.Term) {
	t.Helper()
	if e != api.OK || !same(a, wanted) {
		t.Fatalf("%s: %s, %v, not %s", what, text(a), e, text(wanted))
	}
}

// refuse fails, unless a call answered that error, and nothing else.
func refuse(t *testing.T, what string, a []api.Term, e, wanted api.Errno) {
	t.Helper()
	if e != wanted || len(a) > 0 {
		t.Fatalf("%s: %s, %v, not %v", what, text(a), e, wanted)
	}
}

// text tells a polynomial; numbers that are not plain stand there limb by limb.
func text(a []api.Term) string {
	var all []string
	for _, t := range a {
		number := fmt.Sprint(t.C)
		if v := value(t.C); sameInt(t.C, of(v)) {
			number = v.String()
		}
		all = append(all, number+fmt.Sprint(t.E))
	}
	if s := strings.Join(all, " "); len(s) < 2000 {
		return "(" + s + ")"
	}
	return fmt.Sprintf("(%d terms)", len(a))
}

// said tells what was handed to a call.
func said(name string, handed ...any) string {
	all := []string{name}
	for _, h := range handed {
		switch x := h.(type) {
		case []api.Term:
			all = append(all, text(x))
		default:
			all = append(all, fmt.Sprint(x))
		}
	}
	return strings.Join(all, " ")
}

// numbers are integers at which something turns, some of them not plain.
func numbers() []api.Int {
	return []api.Int{
		{}, {Neg: true}, {Abs: []uint64{0}}, {Neg: true, Abs: []uint64{0, 0}}, small(1), small(-1), {Abs: []uint64{1, 0}}, {Neg: true, Abs: []uint64{1, 0, 0}},
		small(2), small(-3), small(6), {Neg: true, Abs: []uint64{4, 0}}, small(math.MaxInt), small(math.MinInt), {Abs: []uint64{1 << 63}}, {Abs: []uint64{most}}, {Neg: true, Abs: []uint64{most}},
		{Abs: []uint64{0, 1}}, {Neg: true, Abs: []uint64{0, 1}}, {Neg: true, Abs: []uint64{1, 1, 0}}, {Abs: []uint64{most, most}}, {Neg: true, Abs: []uint64{5, 0, most}},
	}
}

// maker makes the same things in each run.
type maker struct{ *rand.Rand }

func newMaker(seed uint64) maker { return maker{rand.New(rand.NewPCG(seed, 18))} }

func (m maker) number() api.Int {
	switch m.IntN(6) {
	case 0:
		list := numbers()
		return list[m.IntN(len(list))]
	case 1:
		a := api.Int{Neg: m.IntN(2) == 1, Abs: make([]uint64, m.IntN(4))}
		for i := range a.Abs {
			a.Abs[i] = m.Uint64()
		}
		return a
	}
	return small(m.IntN(25) - 12)
}

// some is a polynomial of n variables, of up to so many terms, in any order, exponents up to high; some may stand there twice.
func (m maker) some(n, terms, high int) []api.Term {
	a := make([]api.Term, m.IntN(terms+1))
	for k := range a {
		a[k] = api.Term{C: m.number(), E: make([]int, n)}
		for i := range n {
			a[k].E[i] = m.IntN(high + 1)
		}
	}
	return a
}

// unlike is such a polynomial that is not nought.
func (m maker) unlike(n, terms, high int) []api.Term {
	for {
		if a := m.some(n, terms, high); len(norm(n, a)) > 0 {
			return a
		}
	}
}

// all are all polynomials of n variables with exponents up to high whose numbers are from -top to top.
func all(n, high, top int) [][]api.Term {
	lists := [][]api.Term{nil}
	at := make([]int, n)
	for more := true; more; {
		var longer [][]api.Term
		for _, l := range lists {
			for c := -top; c <= top; c++ {
				if c == 0 {
					longer = append(longer, l)
				} else {
					longer = append(longer, append(slices.Clone(l), term(c, slices.Clone(at)...)))
				}
			}
		}
		lists, more = longer, false
		for i := n - 1; i >= 0 && !more; i-- {
			at[i] = (at[i] + 1) % (high + 1)
			more = at[i] > 0
		}
	}
	return lists
}

// edges are polynomials of n variables at which something turns, few of them plain.
func edges(n int) [][]api.Term {
	low, high := make([]int, n), slices.Repeat([]int{3}, n)
	list := [][]api.Term{
		nil, {}, {term(0, low...)}, {term(1, low...), term(-1, low...)}, {{C: api.Int{Neg: true}, E: high}, {C: api.Int{Abs: []uint64{0, 0}}, E: low}}, {term(2, low...), term(3, high...), term(-2, low...)},
		{term(1, low...), term(1, high...), term(1, low...), term(1, high...)}, {term(-4, high...), term(6, low...)}, {term(4, low...), term(-6, high...), term(9, high...)},
	}
	for _, c := range numbers() {
		list = append(list, []api.Term{{C: c, E: low}}, []api.Term{{C: c, E: high}, term(1, low...)}, []api.Term{term(5, low...), {C: c, E: low}})
	}
	return list
}

// unit is 1.
func unit(n int) []api.Term { return []api.Term{term(1, make([]int, n)...)} }

// power is a to the power of k.
func power(n int, a []api.Term, k int) []api.Term {
	return times(n, slices.Repeat([][]api.Term{a}, k)...)
}

// product is the product of some, by the layer below, which is faster.
func product(n int, factors ...[]api.Term) []api.Term {
	z := unit(n)
	for _, f := range factors {
		var e api.Errno
		if z, e = mpoly.Mul(n, z, f); e != api.OK {
			panic(e)
		}
	}
	return z
}

// upright is a polynomial, plain, with its first coefficient above 0.
func upright(n int, a []api.Term) []api.Term {
	if a = norm(n, a); len(a) > 0 && a[0].C.Neg {
		a = plusTimes(n, nil, -1, a)
	}
	return a
}

// primitive is a polynomial over what its coefficients have in common, with its first coefficient above 0.
func primitive(n int, a []api.Term) []api.Term {
	a = upright(n, a)
	g := new(big.Int)
	for _, t := range a {
		g.GCD(nil, nil, g, new(big.Int).Abs(value(t.C)))
	}
	for k := range a {
		a[k].C = of(new(big.Int).Quo(value(a[k].C), g))
	}
	return a
}

// irreducibles are primitive polynomials of n variables that can't be parted: of degree 1 in a variable, with coefficients that have
// nothing in common, or by Eisenstein's way, or squares plus something above 0; no two are the same.
func irreducibles(n int) [][]api.Term {
	var all [][]api.Term
	for _, s := range []string{
		"x", "y", "z", "u", "v", "w", "x +1", "x -1", "2x +1", "3x -7", "x2 +1", "x2 -2", "x3 +2x +2", "5x2 +x +1", "x4 +1", "x10 -3", "y -3", "y2 +3", "4y3 -3", "z +5", "z2 +z +1", "w -1", "u7 +2", "v2 -5",
		"x +y", "x -y", "x +y +1", "2x -3y +5", "xy +1", "xy -6", "x2 +y2 +1", "x2 -y3", "x2 +y2", "x2y +3y2 -1", "x5 +y7 -1", "3x2 +y -y4", "x2 +xy +y2", "y2 -x3 +x", "xy +x +2",
		"x +y +z", "xyz +1", "xy +z", "x2 +y2 +z2", "x -yz +3", "z3 +xy -2", "x2z +y2", "y -z", "3yz -1", "x +u", "xu -yz", "x +y +z +u +1", "u2 +x2yz +1", "x +y +z +u +v +w", "xyzuvw -1", "w5 +xv -yu +2", "7v2w -3x", "u3 +v +w -4",
	} {
		if f := poly(api.MaxVars, s); slices.Max(degreesOf(f)[n:]) == 0 {
			all = append(all, upright(n, poly(n, s)))
		}
	}
	return all
}

// degreesOf are the greatest exponents of all variables, and a 0.
func degreesOf(a []api.Term) []int {
	d := make([]int, api.MaxVars+1)
	for _, t := range a {
		for i, e := range t.E {
			d[i] = max(d[i], e)
		}
	}
	return d
}

// pairs calls f with many pairs of polynomials of n variables: small ones, edges, longer ones, ones that have something in common.
func pairs(f func(n int, a, b []api.Term)) {
	for _, n := range []int{0, 2, api.MaxVars} {
		for i, a := range edges(n) {
			for j, b := range edges(n) {
				if (i+j)%(n+3) == 0 {
					f(n, a, b)
				}
			}
		}
	}
	for n, lists := range [][][]api.Term{all(0, 0, 4), all(1, 2, 1), all(2, 1, 1)} {
		for i, a := range lists {
			for j, b := range lists {
				if (i+j)%(3*n+1) == 0 {
					f(n, a, b)
				}
			}
		}
	}
	m := newMaker(1)
	for range 150 {
		n := 1 + m.IntN(api.MaxVars)
		a, b, c := m.some(n, 5, 1+m.IntN(4)), m.some(n, 5, 1+m.IntN(4)), m.unlike(n, 4, 1+m.IntN(3))
		f(n, a, b)
		f(n, times(n, a, c), times(n, b, c))
		f(n, times(n, a, c, c), times(n, a, a, c))
		f(n, times(n, a, b), b)
	}
}

// long is a number of so many limbs.
func (m maker) long(limbs int) api.Int {
	a := api.Int{Neg: m.IntN(2) == 1, Abs: make([]uint64, limbs)}
	for i := range a.Abs {
		a.Abs[i] = m.Uint64() | 1
	}
	return a
}
