package lattice_test

import (
	"math/big"
	"testing"

	"cleaver/api"
	"cleaver/lattice"
)

// P14.1

func TestDotOfSome(t *testing.T) {
	for _, c := range []struct {
		a, b []int
		dot  int64
	}{
		{nil, nil, 0}, {[]int{}, nil, 0}, {[]int{3}, []int{5}, 15}, {[]int{3}, []int{-5}, -15}, {[]int{1, 2}, []int{3, 4}, 11}, {[]int{1, 0}, []int{0, 1}, 0},
		{[]int{1, -1}, []int{1, 1}, 0}, {[]int{1, 2, 3}, []int{1, 2, 3}, 14}, {[]int{1, 2, 3}, []int{-1, -2, -3}, -14}, {[]int{0, 0, 7}, []int{5, 6, 1}, 7},
	} {
		dot, e := lattice.Dot(row(c.a...), row(c.b...))
		wantInt(t, said("Dot", c.a, c.b), dot, e, big.NewInt(c.dot))
	}
}

// checkDot holds Dot against the library's sum, both ways round.
func checkDot(t *testing.T, a, b []api.Int) {
	t.Helper()
	sum, y := new(big.Int), values(b)
	for i, v := range values(a) {
		sum.Add(sum, v.Mul(v, y[i]))
	}
	dot, e := lattice.Dot(a, b)
	wantInt(t, said("Dot", a, b), dot, e, sum)
	dot, e = lattice.Dot(b, a)
	wantInt(t, said("Dot", b, a), dot, e, sum)
}

// Rows to be multiplied are of any length: they need not be a basis's.
func TestDot(t *testing.T) {
	for _, x := range numbers() {
		for _, y := range numbers() {
			checkDot(t, []api.Int{x}, []api.Int{y})
			checkDot(t, []api.Int{x, y, x}, []api.Int{y, y, small(-1)})
		}
	}
	m := newMaker(2)
	for n := range 200 {
		l := m.some(2, n, 1+m.IntN(300))
		checkDot(t, l[0], l[1])
		l = m.edges(2, n)
		checkDot(t, l[0], l[1])
		checkDot(t, l[0], l[0])
	}
}

func TestDotOfUnlikeLengths(t *testing.T) {
	for m := range 70 {
		for n := range 70 {
			a, b := m, n
			if a == b {
				b++
			}
			if dot, e := lattice.Dot(make([]api.Int, a), make([]api.Int, b)); e != api.ErrArg || !sameInt(dot, api.Int{}) {
				t.Errorf("of %d and %d numbers: %v, %v", a, b, dot, e)
			}
		}
	}
	if dot, e := lattice.Dot(row(1, 2, 3), row(1, 2)); e != api.ErrArg || !sameInt(dot, api.Int{}) {
		t.Error(dot, e)
	}
}

func TestGramOfSome(t *testing.T) {
	for _, c := range []struct {
		l    [][]api.Int
		gram int64
	}{
		{nil, 1}, {[][]api.Int{}, 1}, {rows([]int{-3}), 9}, {rows([]int{1, 2}, []int{3, 4}), 4}, {rows([]int{1, 0}, []int{4, 1}), 1}, {rows([]int{3, 4}), 25}, {rows([]int{1, 1, 1}, []int{1, 2, 3}), 6},
		{rows([]int{2, 0, 0}, []int{0, 3, 0}, []int{0, 0, 5}), 900}, {rows([]int{0, 0, 5}, []int{2, 0, 0}, []int{0, 3, 0}), 900}, {rows([]int{1, 1, 0, 0}, []int{0, 1, 1, 0}, []int{0, 0, 1, 1}), 4},
		{unit(64), 1}, {unit(64)[10:30], 1},
	} {
		gram, e := lattice.Gram(c.l)
		wantInt(t, said("Gram", c.l), gram, e, big.NewInt(c.gram))
	}
}

// A list of rows has a Gram just if it is a basis.
func TestGram(t *testing.T) {
	check := func(l [][]api.Int) {
		gram, e := lattice.Gram(l)
		if mayBe(l) {
			wantInt(t, said("Gram", l), gram, e, gramOf(l))
		} else if e != api.ErrArg || !sameInt(gram, api.Int{}) {
			t.Fatalf("%s: %v, %v", said("Gram", l), gram, e)
		}
	}
	fewNumbers(check)
	some(check)
}

// It is the product of the lengths of the stripped rows, too.
func TestGramOfStripped(t *testing.T) {
	some(func(l [][]api.Int) {
		if lengths, _, ok := strip(l); ok {
			product := big.NewRat(1, 1)
			for _, length := range lengths {
				product.Mul(product, length)
			}
			gram, e := lattice.Gram(l)
			wantInt(t, said("Gram", l), gram, e, product.Num())
		}
	})
}

// P14.2

func TestReducedOfSome(t *testing.T) {
	for _, c := range []struct {
		l       [][]api.Int
		reduced bool
	}{
		{nil, true}, {rows([]int{7}), true}, {rows([]int{-7, 1000000}), true}, {rows([]int{1, 0}, []int{4, 1}), false}, {rows([]int{1, 0}, []int{0, 1}), true}, {unit(64), true},
		// m is 1/2, or a little more
		{rows([]int{2, 0}, []int{1, 2}), true}, {rows([]int{2, 0}, []int{-1, 2}), true}, {rows([]int{1000, 0}, []int{501, 1000}), false}, {rows([]int{1000, 0}, []int{-501, 1000}), false},
		// m ahead of the last one counts, too
		{rows([]int{2, 0, 0}, []int{0, 2, 0}, []int{1, 1, 2}), true}, {rows([]int{2, 0, 0}, []int{0, 2, 0}, []int{2, 1, 2}), false}, {rows([]int{2, 0, 0}, []int{0, 2, 0}, []int{-2, -1, 2}), false}, {rows([]int{2, 0, 0}, []int{0, 2, 0}, []int{1, 2, 2}), false},
		// a stripped row's length is just 3/4 of the one ahead, or 1/2 where m is 1/2, or a little less
		{rows([]int{2, 0, 0, 0}, []int{0, 1, 1, 1}), true}, {rows([]int{2, 0, 0, 0}, []int{0, 1, 1, 0}), false}, {rows([]int{20, 0, 0, 0}, []int{0, 10, 10, 9}), false},
		{rows([]int{2, 0, 0}, []int{1, 1, 1}), true}, {rows([]int{2, 0, 0}, []int{-1, 1, 1}), true}, {rows([]int{2, 0, 0}, []int{1, 1, 0}), false}, {rows([]int{20, 0, 0}, []int{10, 10, 9}), false}, {rows([]int{20, 0, 0}, []int{9, 10, 10}), false},
		// only the row just ahead is asked for
		{rows([]int{8, 0, 0}, []int{0, 7, 0}, []int{0, 0, 6}), false}, {rows([]int{80, 0, 0}, []int{0, 70, 0}, []int{0, 0, 61}), true}, {rows([]int{8, 0, 0}, []int{0, 6, 0}, []int{0, 0, 8}), false},
	} {
		if reduced, e := lattice.Reduced(c.l); e != api.OK || reduced != c.reduced {
			t.Errorf("%s: %v, %v", said("Reduced", c.l), reduced, e)
		}
	}
}

// checkReduced holds Reduced against the document's words, and answers what they are.
func checkReduced(t *testing.T, l [][]api.Int) bool {
	t.Helper()
	reduced, e := lattice.Reduced(l)
	if mayBe(l) {
		wanted := isReduced(l)
		if e != api.OK || reduced != wanted {
			t.Fatalf("%s: %v, %v", said("Reduced", l), reduced, e)
		}
		return wanted
	}
	if e != api.ErrArg || reduced {
		t.Fatalf("%s: %v, %v", said("Reduced", l), reduced, e)
	}
	return false
}

func TestReduced(t *testing.T) {
	many := map[bool]int{}
	check := func(l [][]api.Int) { many[checkReduced(t, l)]++ }
	fewNumbers(check)
	some(check)
	each(6, -2, 2, func(l []int) { check(rows(l[:3], l[3:])) })
	each(4, -4, 4, func(l []int) { check(rows([]int{3, 0, 0}, []int{l[0], 3, 0}, l[1:])) })
	if many[true] < 1000 || many[false] < 1000 {
		t.Error(many)
	}
}

// What is no basis, all calls refuse.

func TestNoBasis(t *testing.T) {
	for _, l := range noBases() {
		if gram, e := lattice.Gram(l); e != api.ErrArg || !sameInt(gram, api.Int{}) {
			t.Errorf("%s: %v, %v", said("Gram", l), gram, e)
		}
		if reduced, e := lattice.Reduced(l); e != api.ErrArg || reduced {
			t.Errorf("%s: %v, %v", said("Reduced", l), reduced, e)
		}
		if z, e := lattice.Reduce(l); e != api.ErrArg || z != nil {
			t.Errorf("%s: %v, %v", said("Reduce", l), z, e)
		}
		for _, n := range []int{0, 1, 2, 3, 63, 64, 65, 66} {
			if times, e := lattice.In(l, make([]api.Int, n)); e != api.ErrArg || times != nil {
				t.Errorf("%s: %v, %v", said("In", l, n), times, e)
			}
		}
	}
}

// Bases of all sizes up to the limit are taken.
func TestAllSizes(t *testing.T) {
	for n := range api.MaxRows + 1 {
		for _, columns := range []int{n, n + 1, (n + api.MaxRows) / 2, api.MaxRows} {
			if columns > api.MaxRows {
				continue
			}
			l := sized(n, columns)
			for i := range l {
				l[i][columns-1-i] = small(-2)
			}
			gram, e := lattice.Gram(l)
			wantInt(t, said("Gram", n, columns), gram, e, new(big.Int).Lsh(big.NewInt(1), uint(2*n)))
			if reduced, e := lattice.Reduced(l); e != api.OK || !reduced {
				t.Fatal(n, columns, reduced, e)
			}
			if z, e := lattice.Reduce(l); e != api.OK || len(z) != n {
				t.Fatal(n, columns, z, e)
			}
			if n == 0 {
				continue
			}
			if times, e := lattice.In(l, l[n-1]); e != api.OK || len(times) != n || !sameInt(times[n-1], small(1)) {
				t.Fatal(n, columns, times, e)
			}
		}
	}
}
