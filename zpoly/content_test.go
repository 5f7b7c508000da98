package zpoly_test

import (
	"math/big"
	"slices"
	"testing"

	"cleaver/api"
	"cleaver/zpoly"
)

// P10.3

// content is the greatest common divisor of all numbers, with the last one's sign, by the library.
func content(a []api.Int) *big.Int {
	g := new(big.Int)
	for _, v := range values(a) {
		g.GCD(nil, nil, g, v.Abs(v))
	}
	if l := plain(values(a)); len(l) > 0 && value(l[len(l)-1]).Sign() < 0 {
		g.Neg(g)
	}
	return g
}

// checkContent holds Content and Prim against what they mean.
func checkContent(t *testing.T, a []api.Int) {
	t.Helper()
	c := content(a)
	wantInt(t, said("Content", a), zpoly.Content(a), c)
	wanted := noughts(len(a))
	for i, v := range values(a) {
		if c.Sign() != 0 {
			wanted[i].Quo(v, c)
		}
	}
	want(t, said("Prim", a), zpoly.Prim(a), plain(wanted))
}

func TestContentOfSome(t *testing.T) {
	for _, c := range []struct {
		a       []api.Int
		content int
		prim    []api.Int
	}{
		{nil, 0, nil}, {poly(0, 0), 0, nil}, {[]api.Int{{Neg: true}}, 0, nil}, {poly(4, -6), -2, poly(-2, 3)}, {poly(-4, 6, 0), 2, poly(-2, 3)}, {poly(7), 7, poly(1)}, {poly(-7), -7, poly(1)},
		{poly(1), 1, poly(1)}, {poly(-1), -1, poly(1)}, {poly(0, 0, -3, 0), -3, poly(0, 0, 1)}, {poly(6, 10, 15), 1, poly(6, 10, 15)}, {poly(6, 10, -15), -1, poly(-6, -10, 15)},
		{poly(0, -12, 0, 18, 0, -30), -6, poly(0, 2, 0, -3, 0, 5)}, {poly(-5, -10), -5, poly(1, 2)},
	} {
		wantInt(t, said("Content", c.a), zpoly.Content(c.a), big.NewInt(int64(c.content)))
		want(t, said("Prim", c.a), zpoly.Prim(c.a), c.prim)
		checkContent(t, c.a)
	}
}

func TestContent(t *testing.T) {
	m := newMaker(5)
	pairs(func(a, b []api.Int) {
		checkContent(t, a)
		checkContent(t, times(a, []api.Int{m.number()}))
	})
	for _, a := range all(4, 3) {
		checkContent(t, a)
	}
}

// The number that has no divisor in common with the others may stand at any place, also the last one.
func TestContentIsToldByAll(t *testing.T) {
	for n := 1; n <= 6; n++ {
		for i := range n {
			a := slices.Repeat(poly(-6), n)
			a[i] = small(35)
			checkContent(t, a)
			a[i] = api.Int{}
			checkContent(t, a)
			a[i] = num("0x3_0000000000000000")
			checkContent(t, a)
		}
	}
}
