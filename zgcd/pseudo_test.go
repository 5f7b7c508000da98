package zgcd_test

import (
	"math/big"
	"testing"

	"cleaver/api"
	"cleaver/zgcd"
)

// P11.1

// lead is b's last coefficient to the power that the promise tells, for a by b, which is not nought.
func lead(a, b []api.Int) api.Int {
	a, b = norm(a), norm(b)
	e := max(len(a)-len(b)+1, 0)
	return of(new(big.Int).Exp(value(b[len(b)-1]), big.NewInt(int64(e)), nil))
}

// checkPseudo holds an answer against what it means; no other q and r are so.
func checkPseudo(t *testing.T, a, b []api.Int) {
	t.Helper()
	q, r, e := zgcd.Pseudo(a, b)
	if len(norm(b)) == 0 {
		if e != api.ErrZero || q != nil || r != nil {
			t.Fatalf("%s: %s, %s, %v", said("Pseudo", a, b), text(q), text(r), e)
		}
		return
	}
	if e != api.OK || len(r) >= len(norm(b)) {
		t.Fatalf("%s: rest %s, %v", said("Pseudo", a, b), text(r), e)
	}
	want(t, said("Pseudo's quotient is plain", a, b), q, norm(q))
	want(t, said("Pseudo's rest is plain", a, b), r, norm(r))
	want(t, said("q b + r", a, b), plusTimes(r, 1, times(q, b)), times(a, []api.Int{lead(a, b)}))
}

func TestPseudoOfSome(t *testing.T) {
	for _, c := range []struct{ a, b, q, r []api.Int }{
		{poly(0, 0, 1), poly(1, 2), poly(-1, 2), poly(1)}, {poly(0, 0, 1, 0), poly(1, 2, 0, 0), poly(-1, 2), poly(1)}, {poly(0, 0, 1), poly(-1, -2), poly(1, -2), poly(1)},
		// not as long as b: once
		{poly(5, 3), poly(1, 1, 7), nil, poly(5, 3)}, {poly(5, 3, 0, 0), poly(1, 1, 7), nil, poly(5, 3)}, {nil, poly(5), nil, nil}, {poly(0, 0), poly(5, 5), nil, nil}, {poly(4), poly(0, 0, 2), nil, poly(4)},
		// as long as b: b's last coefficient once
		{poly(1, 3), poly(1, 2), poly(3), poly(-1)}, {poly(1, 0, 3), poly(0, 0, -2), poly(3), poly(-2)}, {poly(2, 4), poly(1, 2), poly(4), nil}, {poly(7), poly(3), poly(7), nil},
		// by a number: one power less is the quotient
		{poly(1, 2, 3), poly(2), poly(4, 8, 12), nil}, {poly(1, 2, 3), poly(-2), poly(4, 8, 12), nil}, {poly(1, 2), poly(-2), poly(-2, -4), nil}, {poly(1, 2, 3), poly(1), poly(1, 2, 3), nil},
		// also where a step takes nothing away
		{poly(1, 0, 0, 1), poly(0, 0, 2), poly(0, 2), poly(4)}, {poly(1, 0, 0, 0, 1), poly(0, 3), poly(0, 0, 0, 27), poly(81)}, {poly(2, 0, 2), poly(2, 0, 2), poly(2), nil},
		{poly(0, 0, 0, 0, 1), poly(1, 0, 2), poly(-2, 0, 4), poly(2)}, {poly(-1, 0, 0, 1), poly(-1, 1), poly(1, 1, 1), nil},
	} {
		q, r, e := zgcd.Pseudo(c.a, c.b)
		if e != api.OK || !same(q, c.q) || !same(r, c.r) {
			t.Errorf("%s: %s, %s, %v, not %s, %s", said("Pseudo", c.a, c.b), text(q), text(r), e, text(c.q), text(c.r))
		}
		checkPseudo(t, c.a, c.b)
	}
}

func TestPseudo(t *testing.T) {
	pairs(func(a, b []api.Int) {
		checkPseudo(t, a, b)
		checkPseudo(t, times(a, b), a)
	})
	m := newMaker(2)
	for range 20 {
		checkPseudo(t, m.long(1+m.IntN(65), 1+m.IntN(300)), m.long(1+m.IntN(65), 1+m.IntN(300)))
	}
}

// Nought by nought is a division by nought, too.
func TestPseudoByNought(t *testing.T) {
	for _, b := range [][]api.Int{nil, {}, poly(0), poly(0, 0), {{Neg: true}}, {{Abs: []uint64{0}}, {Neg: true, Abs: []uint64{0, 0}}}} {
		for _, a := range edges() {
			if q, r, e := zgcd.Pseudo(a, b); e != api.ErrZero || q != nil || r != nil {
				t.Errorf("%s: %s, %s, %v", said("Pseudo", a, b), text(q), text(r), e)
			}
		}
	}
}

// No limit is set to degrees, nor to the bits of what a is taken times.
func TestPseudoOfLongOnes(t *testing.T) {
	m := newMaker(3)
	checkPseudo(t, m.long(700, 9), m.long(3, 9))
	checkPseudo(t, power(1500), poly(1, 0, 2))
	checkPseudo(t, power(400), power(399))
	great := new(big.Int).Lsh(big.NewInt(3), 64*api.MaxLimbs-2)
	checkPseudo(t, poly(5, 0, 0, 7), []api.Int{small(1), of(great)})
	checkPseudo(t, []api.Int{of(great), small(-1), of(great)}, []api.Int{of(great.Neg(great))})
}
