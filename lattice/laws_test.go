package lattice_test

import (
	"math/big"
	"testing"

	"cleaver/api"
	"cleaver/lattice"
	"cleaver/zint"
)

// P14.5: what follows, told by the calls alone; and what P14.1 to P14.4 say, by them.

// answered is what a call answers that may not answer an error.
func answered[T any](t *testing.T) func(a T, e api.Errno) T {
	return func(a T, e api.Errno) T {
		t.Helper()
		if e != api.OK {
			t.Fatal(a, e)
		}
		return a
	}
}

// The first row of a reduced basis is short: its length is held against those of all sums of rows, each taken a few times.
func TestFirstRowIsShort(t *testing.T) {
	number := answered[api.Int](t)
	check := func(l [][]api.Int) {
		if len(l) == 0 || len(l) > 4 {
			return
		}
		z := answered[[][]api.Int](t)(lattice.Reduce(l))
		first := number(lattice.Dot(z[0], z[0]))
		far := 1 + 10>>len(z)
		each(len(z), -far, far, func(often []int) {
			v := make([]api.Int, len(z[0]))
			for i, n := range often {
				v = plus(v, big.NewInt(int64(n)), z[i])
			}
			length := number(lattice.Dot(v, v))
			if bound := zint.Mul(length, zint.Of(1<<(len(z)-1))); zint.Sign(length) > 0 && zint.Cmp(first, bound) > 0 {
				t.Fatalf("%s: the first row of %s, but %s", said("Reduce", l), said("", z), text(v))
			}
		})
	}
	m := newMaker(8)
	for range 40 {
		n := 1 + m.IntN(4)
		check(m.hidden(n, 50))
		check(m.mixed(m.steps(n), 8, 10))
		check(m.mixed(unit(n), 12, 10))
	}
}

// It is no longer than so many times each of the rows that it came of.
func TestFirstRowAndRowsBefore(t *testing.T) {
	number := answered[api.Int](t)
	bases(func(l [][]api.Int) {
		z := answered[[][]api.Int](t)(lattice.Reduce(l))
		for _, v := range l {
			bound := zint.Mul(number(lattice.Dot(v, v)), zint.Of(1<<(len(l)-1)))
			if zint.Cmp(number(lattice.Dot(z[0], z[0])), bound) > 0 {
				t.Fatalf("%s: %s", said("Reduce", l), said("", z))
			}
		}
	})
}

func TestReduceKeepsGram(t *testing.T) {
	number := answered[api.Int](t)
	bases(func(l [][]api.Int) {
		z := answered[[][]api.Int](t)(lattice.Reduce(l))
		if !sameInt(number(lattice.Gram(z)), number(lattice.Gram(l))) || !answered[bool](t)(lattice.Reduced(z)) {
			t.Fatalf("%s: %s", said("Reduce", l), said("", z))
		}
	})
}

// Each row of either basis is a sum of the other one's; and as often as In tells, they make it.
func TestReduceKeepsTheLattice(t *testing.T) {
	check := func(l, others [][]api.Int) {
		for _, v := range others {
			sum := make([]api.Int, len(v))
			for i, times := range answered[[]api.Int](t)(lattice.In(l, v)) {
				sum = plus(sum, value(times), l[i])
			}
			if !same(sum, norm(v)) {
				t.Fatalf("%s: the sum is %s", said("In", l, v), text(sum))
			}
		}
	}
	bases(func(l [][]api.Int) {
		z := answered[[][]api.Int](t)(lattice.Reduce(l))
		check(l, z)
		check(z, l)
	})
}

// Gram turns with no row that is added to another one, and is that of the same rows in any order.
func TestGramOfMixedRows(t *testing.T) {
	m, number := newMaker(9), answered[api.Int](t)
	bases(func(l [][]api.Int) {
		if len(l) == 0 {
			return
		}
		other := m.mixed(l, 3, 50)
		m.Shuffle(len(other), func(i, k int) { other[i], other[k] = other[k], other[i] })
		if !sameInt(number(lattice.Gram(l)), number(lattice.Gram(other))) {
			t.Fatal(said("Gram", l, other))
		}
	})
}

func TestDotGoesThroughSums(t *testing.T) {
	m, number := newMaker(10), answered[api.Int](t)
	for n := range 80 {
		l, times := m.some(3, n, 1+m.IntN(200)), m.great(100)
		whole := number(lattice.Dot(l[0], plus(l[1], times, l[2])))
		parts := zint.Add(number(lattice.Dot(l[0], l[1])), zint.Mul(of(times), number(lattice.Dot(l[2], l[0]))))
		if !sameInt(whole, parts) {
			t.Fatal(said("Dot", l, of(times)))
		}
	}
}
