package zint

import (
	"math"
	"slices"
	"testing"

	"cleaver/nat"
)

// P2.3: the limbs for which something goes on to the next one but seldom turn up on Euclid's way, so they are asked for here.
func TestDifferenceCarries(t *testing.T) {
	const most = math.MaxUint64
	limbs := []uint64{0, 1, 2, 1<<32 - 1, 1 << 32, 1<<63 - 1, 1 << 63, most - 1, most}
	var lists [][]uint64 // each with a nought ahead, so that all products go into it
	for _, low := range limbs {
		for _, high := range limbs {
			lists = append(lists, []uint64{low, high, most, 0})
		}
	}
	for i, a := range lists {
		b := lists[(7*i+3)%len(lists)]
		for _, m := range limbs {
			for _, n := range limbs {
				checkDifference(t, a, b, m, n)
			}
		}
	}
}

func checkDifference(t *testing.T, a, b []uint64, m, n uint64) {
	t.Helper()
	x, y := nat.Mul(a, []uint64{m}), nat.Mul(b, []uint64{n})
	if nat.Cmp(x, y) < 0 {
		a, b, m, n, x, y = b, a, n, m, y, x
	}
	left, _ := nat.Sub(x, y)
	if is := difference(a, b, m, n); !slices.Equal(is, left) {
		t.Fatalf("%x times %x less %x times %x: %x, not %x", m, a, n, b, is, left)
	}
}

// What the ends of two limbs tell is Euclid's way itself, if these are all of the numbers.
func TestLeapOfWholeNumbers(t *testing.T) {
	for _, c := range [][2]uint64{{0, 5}, {5, 0}, {3, 7}, {7, 3}, {math.MaxUint64, 1}, {1, math.MaxUint64}, {math.MaxUint64, math.MaxUint64 - 1}, {12200160415121876738, 7540113804746346429}} {
		last, next, _ := leapEnds(c[0], c[1], true)
		if last.number != limbGcd(c[0], c[1]) || next.number != 0 {
			t.Errorf("of %v: %v, %v", c, last, next)
		}
		if g := last.taken*c[0] - last.other*c[1]; g != last.number && -g != last.number {
			t.Errorf("of %v: %v", c, last)
		}
	}
}
