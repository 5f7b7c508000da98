package lattice

import (
	"math/bits"

	"cleaver/api"
	"cleaver/zint"
)

// mayBeBasis: are the rows few enough, short enough, and of one length? Of more rows than each has numbers one is always
// a sum of others.
func mayBeBasis(l [][]api.Int) bool {
	for _, row := range l {
		if len(row) > api.MaxRows || len(row) != len(l[0]) || len(row) < len(l) {
			return false
		}
	}
	return true
}

// plain is a row, each number plain.
func plain(a []api.Int) []api.Int {
	z := make([]api.Int, len(a))
	for i, x := range a {
		z[i] = zint.Norm(x)
	}
	return z
}

// dot is the sum of products of two rows that have as many numbers.
func dot(a, b []api.Int) api.Int {
	sum := api.Int{}
	for i, x := range a {
		if zint.Sign(x) != 0 { // most numbers of many bases are nought
			sum = zint.Add(sum, zint.Mul(x, b[i]))
		}
	}
	return sum
}

// dotsOf are the Dots of a row and those ahead of it, and of the row itself.
func dotsOf(row []api.Int, ahead [][]api.Int) []api.Int {
	var dots []api.Int
	for _, other := range ahead {
		dots = append(dots, dot(row, other))
	}
	return append(dots, dot(row, row))
}

// less is a row less so many times another one.
func less(a, b []api.Int, times api.Int) []api.Int {
	z := make([]api.Int, len(a))
	for i, x := range a {
		z[i] = lessBy(x, b[i], times)
	}
	return z
}

// lessBy is a number less so many times another one. How many they are is plain.
func lessBy(a, b, times api.Int) api.Int {
	if bitsOf(times) == 1 { // so it is most often, and a product takes longer than all else
		return zint.Sub(a, api.Int{Neg: b.Neg != times.Neg, Abs: b.Abs})
	}
	return zint.Sub(a, product(b, times))
}

// product is so many times a number. How many they are has but few limbs other than 0, if a head tells it: the noughts
// below them are laid behind the product.
func product(a, times api.Int) api.Int {
	low := 0
	for low < len(times.Abs) && times.Abs[low] == 0 {
		low++
	}
	z := zint.Mul(a, api.Int{Neg: times.Neg, Abs: times.Abs[low:]})
	if low > 0 {
		z.Abs = append(make([]uint64, low), z.Abs...)
	}
	return z
}

// bitsOf is how many bits a plain number has.
func bitsOf(a api.Int) int {
	if len(a.Abs) == 0 {
		return 0
	}
	last := len(a.Abs) - 1
	return last*limbBits + bits.Len64(a.Abs[last])
}

// exact is a quotient that goes without a rest.
func exact(a, b api.Int) api.Int {
	quotient, _ := zint.Exact(a, b)
	return quotient
}

// nearest is the integer that is nearest to a by b, which is above 0.
func nearest(a, b api.Int) api.Int {
	times, _, _ := zint.Div(zint.Add(zint.Add(a, a), b), zint.Add(b, b))
	return times
}
