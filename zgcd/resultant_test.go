package zgcd_test

import (
	"math/big"
	"slices"
	"testing"

	"cleaver/api"
	"cleaver/zgcd"
)

// P11.3

// matrix are the rows of the promise, of two that are not nought.
func matrix(a, b []api.Int) [][]*big.Rat {
	a, b = norm(a), norm(b)
	m, n := len(a)-1, len(b)-1
	rows := make([][]*big.Rat, m+n)
	for i := range rows {
		of, place := a, i
		if i >= n {
			of, place = b, i-n
		}
		rows[i] = make([]*big.Rat, m+n)
		for j := range rows[i] {
			rows[i][j] = new(big.Rat)
		}
		for _, c := range slices.Backward(of) {
			rows[i][place].SetInt(value(c))
			place++
		}
	}
	return rows
}

// determinant takes rows away from one another over the fractions, column by column.
func determinant(rows [][]*big.Rat) *big.Int {
	product := big.NewRat(1, 1)
	for k := range rows {
		at := k
		for at < len(rows) && rows[at][k].Sign() == 0 {
			at++
		}
		if at == len(rows) {
			return new(big.Int)
		}
		if at != k {
			rows[k], rows[at] = rows[at], rows[k]
			product.Neg(product)
		}
		product.Mul(product, rows[k][k])
		for _, row := range rows[k+1:] {
			if row[k].Sign() == 0 {
				continue
			}
			times := new(big.Rat).Quo(row[k], rows[k][k])
			for j := k; j < len(rows); j++ {
				row[j].Sub(row[j], new(big.Rat).Mul(times, rows[k][j]))
			}
		}
	}
	return new(big.Int).Quo(product.Num(), product.Denom())
}

// resultant is the answer's value; that there is none fails.
func resultant(t *testing.T, a, b []api.Int) *big.Int {
	t.Helper()
	z, e := zgcd.Resultant(a, b)
	if e != api.OK || !sameInt(z, of(value(z))) {
		t.Fatalf("%s: %v, %v", said("Resultant", a, b), z, e)
	}
	return value(z)
}

func checkResultant(t *testing.T, a, b []api.Int) {
	t.Helper()
	wanted := new(big.Int)
	if len(norm(a)) > 0 && len(norm(b)) > 0 {
		wanted = determinant(matrix(a, b))
	}
	if z := resultant(t, a, b); z.Cmp(wanted) != 0 {
		t.Fatalf("%s: %v, not %v", said("Resultant", a, b), z, wanted)
	}
}

func TestResultantOfSome(t *testing.T) {
	for _, c := range []struct {
		a, b   []api.Int
		wanted int64
	}{
		{poly(-2, 0, 1), poly(-3, 0, 1), 1}, {poly(-2, 0, 1, 0), poly(-3, 0, 1, 0, 0), 1}, {poly(-1, 0, 1), poly(1, 1), 0}, {poly(-2, 0, 1), poly(-2, 0, 1), 0},
		// nought, numbers: the powers of these, 1 of two
		{nil, nil, 0}, {nil, poly(5), 0}, {poly(5), poly(0, 0), 0}, {poly(1, 2, 3), nil, 0}, {poly(0), poly(0, 1), 0}, {poly(5), poly(7), 1}, {poly(-5), poly(-7), 1}, {poly(0, 0, 9), poly(-1), 1},
		{poly(3), poly(1, 1), 3}, {poly(1, 1), poly(3), 3}, {poly(-2), poly(1, 0, 0, 4), -8}, {poly(1, 0, 0, 4), poly(-2), -8}, {poly(-2), poly(1, 0, 4), 4}, {poly(1, 0, 4), poly(-2, 0), 4},
		// of degree 1: a d - b c, and values
		{poly(2, 3), poly(5, 7), 1}, {poly(5, 7), poly(2, 3), -1}, {poly(0, 1), poly(4, 1), 4}, {poly(4, 1), poly(0, 1), -4}, {poly(-2, 1), poly(1, 1, 1), 7}, {poly(1, 1, 1), poly(-2, 1), 7},
		{poly(-2, 1), poly(0, 0, 0, 1), 8}, {poly(0, 0, 0, 1), poly(-2, 1), -8}, {poly(-1, 2), poly(0, 0, 1), 1}, {poly(1, -2), poly(1, 0, 0, 1), -9}, {poly(-1, 2), poly(1, 0, 0, 1), 9},
		// of degrees 3 and 3, 2 and 1, with gaps
		{poly(-1, 0, 0, 1), poly(-2, 0, 0, 1), -1}, {poly(-2, 0, 0, 1), poly(-1, 0, 0, 1), 1}, {poly(6, -5, 1), poly(-1, 1), 2}, {poly(0, 0, 0, 0, 1), poly(2, 1), 16}, {poly(0, 0, 0, 0, 0, 1), poly(2, 1), 32},
		{poly(2, 1), poly(0, 0, 0, 0, 0, 1), -32}, {poly(0, 0, 0, 0, 0, 1), poly(2, 0, 1), 32}, {poly(0, 0, 0, 0, 0, 1), poly(2, 0, 0, 1), 32}, {poly(2, 0, 0, 1), poly(0, 0, 0, 0, 0, 1), -32},
		// the numbers of an example of Knuth's
		{poly(-5, 2, 8, -3, -3, 0, 1, 0, 1), poly(21, -9, -4, 0, 5, 0, 3), 260708},
	} {
		wantInt(t, said("determinant", c.a, c.b), of(resultant(t, c.a, c.b)), big.NewInt(c.wanted))
		checkResultant(t, c.a, c.b)
	}
}

func TestResultant(t *testing.T) {
	pairs(func(a, b []api.Int) { checkResultant(t, a, b) })
}

// All of degree up to 3 with small coefficients: also the rests behind one another leave out degrees.
func TestResultantOfAll(t *testing.T) {
	list := all(4, 1)
	for _, a := range list {
		for _, b := range list {
			checkResultant(t, a, b)
		}
	}
}

// Gaps at all places of the sequence: a power of x times what stands ahead, and a short rest.
func TestResultantWithGaps(t *testing.T) {
	m := newMaker(6)
	short := func() []api.Int { return []api.Int{small(m.IntN(9) - 4), small(m.IntN(9) - 4)} }
	for range 400 {
		last, next := short(), short()
		for range 2 + m.IntN(3) {
			quotient := append(make([]api.Int, m.IntN(4)), small(1+m.IntN(3)))
			last, next = plusTimes(times(quotient, last), 1, next), last
		}
		checkResultant(t, last, next)
		checkResultant(t, next, last)
	}
}

// The product of all differences of roots, of degrees 64 and 64, 64 and 1, and as many as there may be.
func TestResultantOfRoots(t *testing.T) {
	m := newMaker(7)
	for _, c := range [][2]int{{64, 64}, {64, 63}, {63, 64}, {64, 1}, {1, 64}, {33, 50}, {2, 7}} {
		a, b, wanted := poly(1), poly(1), big.NewInt(1)
		var roots []int
		for range c[0] {
			roots = append(roots, m.IntN(20))
			a = times(a, poly(-roots[len(roots)-1], 1))
		}
		for range c[1] {
			r := -1 - m.IntN(20)
			b = times(b, poly(-r, 1))
			for _, x := range roots {
				wanted.Mul(wanted, big.NewInt(int64(x-r)))
			}
		}
		wantInt(t, said("of roots", a, b), of(resultant(t, a, b)), wanted)
		if z := resultant(t, times(a, poly(-3)), times(b, poly(2))); z.Cmp(wanted.Mul(wanted, scales(c[0], c[1]))) != 0 {
			t.Fatalf("of -3 a, 2 b: %v, not %v", z, wanted)
		}
	}
}

// scales is how many times more the resultant is of -3 times one of degree m, and twice one of degree n.
func scales(m, n int) *big.Int {
	z := new(big.Int).Exp(big.NewInt(-3), big.NewInt(int64(n)), nil)
	return z.Lsh(z, uint(m))
}

func TestResultantOfLongOnes(t *testing.T) {
	m := newMaker(8)
	for range 6 {
		checkResultant(t, m.long(1+m.IntN(24), 1+m.IntN(200)), m.long(1+m.IntN(24), 1+m.IntN(200)))
	}
	checkResultant(t, m.long(40, 10), m.long(41, 10))
}

// A degree above 64 is refused, also beside nought; noughts at the end are none.
func TestResultantLimit(t *testing.T) {
	most, above := power(api.MaxDeg), power(api.MaxDeg+1)
	long := append(slices.Clone(most), make([]api.Int, 70)...)
	long[len(long)-1] = api.Int{Neg: true, Abs: []uint64{0, 0}}
	for _, b := range [][]api.Int{nil, poly(0, 0), poly(3), poly(-1, 2), most, long} {
		for _, c := range []struct{ a, b []api.Int }{{above, b}, {b, above}} {
			if z, e := zgcd.Resultant(c.a, c.b); e != api.ErrLimit || z.Neg || z.Abs != nil {
				t.Errorf("%s: %v, %v", said("Resultant", c.a, c.b), z, e)
			}
		}
		for _, a := range [][]api.Int{most, long} {
			checkResultant(t, a, b)
			checkResultant(t, b, a)
		}
	}
	if z, e := zgcd.Resultant(above, above); e != api.ErrLimit || z.Neg || z.Abs != nil {
		t.Errorf("of degrees above 64: %v, %v", z, e)
	}
}

// No limit is set to the bits: a power may have more than zint.Pow makes.
func TestResultantOfManyBits(t *testing.T) {
	v := new(big.Int).Lsh(big.NewInt(1), 64*api.MaxLimbs-1)
	v.Add(v, big.NewInt(12345))
	great := of(new(big.Int).Neg(v))
	cube := new(big.Int).Exp(v, big.NewInt(3), nil)
	minus := new(big.Int).Neg(cube)
	wantInt(t, "a number", of(resultant(t, []api.Int{great}, poly(1, 0, 0, 7))), minus)
	wantInt(t, "a number", of(resultant(t, poly(1, 0, 0, 7), []api.Int{great})), minus)
	wantInt(t, "contents", of(resultant(t, []api.Int{great, great}, poly(0, 0, 0, 7))), new(big.Int).Mul(big.NewInt(7), cube))
	wantInt(t, "a root", of(resultant(t, []api.Int{great, small(1)}, power(3))), cube)
	wantInt(t, "a root", of(resultant(t, power(3), []api.Int{great, small(1)})), minus)
}
