package lattice_test

import (
	"math/big"
	"testing"

	"cleaver/api"
	"cleaver/lattice"
)

// P14.3

// checkReduce fails, unless Reduce answers what P14.3 asks for: rows, as many, plain, reduced, of the same lattice.
func checkReduce(t *testing.T, l [][]api.Int) {
	t.Helper()
	z, e := lattice.Reduce(l)
	if !mayBe(l) {
		if e != api.ErrArg || z != nil {
			t.Fatalf("%s: %v, %v", said("Reduce", l), z, e)
		}
		return
	}
	if e != api.OK || len(z) != len(l) || !alike(z, normAll(z)) || !mayBe(z) || len(z) > 0 && len(z[0]) != len(l[0]) {
		t.Fatalf("%s: %s, %v", said("Reduce", l), said("", z), e)
	}
	if !isReduced(z) || !areIn(l, z) || !areIn(z, l) {
		t.Fatalf("%s: %s", said("Reduce", l), said("", z))
	}
}

func TestReduceOfSome(t *testing.T) {
	for _, c := range []struct{ l, z [][]api.Int }{
		{nil, nil}, {rows([]int{5}), rows([]int{5})}, {rows([]int{-5, 0, 3}), rows([]int{-5, 0, 3})}, {rows([]int{1, 0}, []int{0, 1}), rows([]int{1, 0}, []int{0, 1})},
		{rows([]int{1, 0}, []int{4, 1}), rows([]int{1, 0}, []int{0, 1})}, {rows([]int{2, 0}, []int{1, 2}), rows([]int{2, 0}, []int{1, 2})},
	} {
		if z, e := lattice.Reduce(c.l); e != api.OK || !alike(z, c.z) {
			t.Errorf("%s: %s, %v", said("Reduce", c.l), said("", z), e)
		}
	}
}

func TestReduce(t *testing.T) {
	check := func(l [][]api.Int) { checkReduce(t, l) }
	fewNumbers(check)
	some(check)
	m := newMaker(3)
	for range 2 {
		check(m.hidden(12, 250))
		check(m.mixed(m.steps(13), 20, 30))
		check(m.mixed(unit(12), 24, 40))
		check(m.some(10, 12, 64))
	}
}

// A short vector, and one more, are hidden among great numbers: both come out.
func TestReduceFindsWhatIsHidden(t *testing.T) {
	m := newMaker(4)
	for range 30 {
		short := rows([]int{1, 0, 2, 0, -1}, []int{0, 3, 0, 1, 1})
		hidden := append(m.some(3, 5, 120), plus(short[0], m.great(60), short[1]))
		hidden = append(hidden, plus(short[1], m.great(60), hidden[3]))
		z, e := lattice.Reduce(m.mixed(hidden, 40, 10))
		if e != api.OK {
			t.Fatal(e)
		}
		if hidden = append(hidden[:0:0], z[0], z[1]); !areIn(hidden, short) || !areIn(short, hidden) {
			t.Fatal(said("Reduce", z))
		}
	}
}

// Of long numbers, and of many rows, it comes to an end soon.
func TestReduceOfGreatOnes(t *testing.T) {
	m := newMaker(5)
	for _, l := range [][][]api.Int{
		m.hidden(2, 20000), m.hidden(3, 5000), m.some(2, 2, 10000), m.hidden(20, 600), m.hidden(40, 120), m.some(64, 64, 4), m.some(40, 64, 64), m.mixed(m.steps(50), 50, 20), m.mixed(unit(64), 80, 20),
	} {
		z, e := lattice.Reduce(l)
		if e != api.OK || len(z) != len(l) || len(z[0]) != len(l[0]) {
			t.Fatal(len(l), e)
		}
		if reduced, e := lattice.Reduced(z); e != api.OK || !reduced {
			t.Fatal(len(l), reduced, e)
		}
		before, _ := lattice.Gram(l)
		after, e := lattice.Gram(z)
		wantInt(t, said("Gram", len(l)), after, e, value(before))
		for _, v := range [][]api.Int{z[0], z[len(z)-1]} {
			if _, e := lattice.In(l, v); e != api.OK {
				t.Fatal(len(l), e)
			}
		}
	}
}

// Rows of which one is a sum of others are refused, however long the numbers are that hide it.
func TestReduceOfSums(t *testing.T) {
	m := newMaker(6)
	for _, bits := range []int{3, 60, 500} {
		for n := 2; n < 16; n += 3 {
			for at := range n {
				l := m.hidden(n, bits)
				sum := make([]api.Int, n)
				for i, a := range l {
					if i != at {
						sum = plus(sum, m.great(bits), a)
					}
				}
				l[at] = sum
				if z, e := lattice.Reduce(l); e != api.ErrArg || z != nil {
					t.Fatalf("%s: %v, %v", said("Reduce", l), z, e)
				}
			}
		}
	}
}

// P14.4

func TestInOfSome(t *testing.T) {
	odd := rows([]int{2, 0, 0}, []int{1, 1, 0})
	for _, c := range []struct {
		l     [][]api.Int
		v     []api.Int
		times []int
		e     api.Errno
	}{
		{rows([]int{1, 0}, []int{4, 1}), row(3, -2), []int{11, -2}, api.OK}, {rows([]int{1, 0}, []int{4, 1}), row(0, 0), []int{0, 0}, api.OK},
		{rows([]int{3}), row(-6), []int{-2}, api.OK}, {rows([]int{3}), row(7), nil, api.ErrNone}, {rows([]int{3}), nil, nil, api.ErrArg}, {rows([]int{3}), row(3, 0), nil, api.ErrArg},
		{odd, row(3, 1, 0), []int{1, 1}, api.OK}, {odd, row(1, 0, 0), nil, api.ErrNone}, {odd, row(0, 1, 0), nil, api.ErrNone}, {odd, row(3, 1, 1), nil, api.ErrNone}, {odd, row(0, 0, 1), nil, api.ErrNone}, {odd, row(3, 1), nil, api.ErrArg}, {odd, row(3, 1, 0, 0), nil, api.ErrArg},
		{nil, nil, nil, api.OK}, {nil, row(0), nil, api.OK}, {nil, row(1), nil, api.ErrNone}, {nil, row(0, 0, -1), nil, api.ErrNone}, {[][]api.Int{}, make([]api.Int, 1000), nil, api.OK}, {nil, append(make([]api.Int, 1000), small(1)), nil, api.ErrNone},
		{nil, []api.Int{{Neg: true, Abs: []uint64{0}}}, nil, api.OK}, {unit(64), unit(64)[5], append([]int{0, 0, 0, 0, 0, 1}, make([]int, 58)...), api.OK},
	} {
		if times, e := lattice.In(c.l, c.v); e != c.e || !same(times, row(c.times...)) {
			t.Errorf("%s: %s, %v", said("In", c.l, c.v), text(times), e)
		}
	}
}

// checkIn holds In against what a basis's rows make by fractions; it tells whether v is in the lattice.
func checkIn(t *testing.T, l [][]api.Int, v []api.Int) bool {
	t.Helper()
	times, e := lattice.In(l, v)
	wanted, ok := wholeTimesOf(l, v)
	if ok && (e != api.OK || !same(times, wanted)) || !ok && (e != api.ErrNone || times != nil) {
		t.Fatalf("%s: %s, %v, not %s", said("In", l, v), text(times), e, text(wanted))
	}
	return ok
}

func TestIn(t *testing.T) {
	many := map[bool]int{}
	for _, c := range []struct{ rows, columns, low, high int }{{1, 1, -4, 4}, {1, 2, -2, 2}, {2, 2, -2, 2}, {2, 3, 0, 1}} {
		each(c.rows*c.columns, c.low, c.high, func(numbers []int) {
			l := sized(c.rows, 0)
			for i := range l {
				l[i] = row(numbers[i*c.columns : (i+1)*c.columns]...)
			}
			if mayBe(l) {
				each(c.columns, -2, 2, func(v []int) { many[checkIn(t, l, row(v...))]++ })
			}
		})
	}
	if many[true] < 1000 || many[false] < 1000 {
		t.Error(many)
	}
}

// Sums of rows are in the lattice, each taken as often as it was; half of such a sum, and one that is off by a little, mostly are not.
func TestInOfSums(t *testing.T) {
	m := newMaker(7)
	bases(func(l [][]api.Int) {
		if len(l) == 0 {
			return
		}
		sum := make([]api.Int, len(l[0]))
		for _, a := range l {
			sum = plus(sum, m.great(1+m.IntN(100)), a)
		}
		if !checkIn(t, l, sum) {
			t.Fatal(said("In", l, sum))
		}
		checkIn(t, l, plus(sum, big.NewInt(1), unit(len(sum))[m.IntN(len(sum))]))
		var half []api.Int
		for _, v := range values(sum) {
			half = append(half, of(v.Quo(v, big.NewInt(2))))
		}
		checkIn(t, l, half)
		for _, n := range []int{0, len(sum) - 1, len(sum) + 1, 64, 65} {
			if n == len(sum) {
				continue
			}
			if times, e := lattice.In(l, make([]api.Int, n)); e != api.ErrArg || times != nil {
				t.Fatalf("%s: %v, %v", said("In", l, n), times, e)
			}
		}
	})
}
