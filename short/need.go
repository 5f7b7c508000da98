package short

import (
	"math/bits"
	"slices"

	"cleaver/api"
	"cleaver/zint"
)

// need is the power of p that is needed to find a factor of a primitive polynomial, of degree 1 or more, by one that it has
// by p, of degree l.
func need(f []api.Int, p, l int) (int, api.Errno) {
	n := len(f) - 1
	m, square := n-1, squareOf(f)
	if (bitsOf(square)-1)*(m+n) >= 2*maxPower*l*bits.Len(uint(p)) { // p to the highest power is too small beside this alone
		return 0, api.ErrLimit
	}
	limit := zint.Mul(power(zint.Of(2), m*n), zint.Mul(power(middle(m), n), power(square, m+n)))
	k := powerAbove(power(zint.Of(p), 2*l), limit)
	if k > maxPower {
		return 0, api.ErrLimit
	}
	return k, api.OK
}

// squareOf is the sum of the squares of a polynomial's coefficients.
func squareOf(f []api.Int) api.Int {
	sum := api.Int{}
	for _, c := range f {
		sum = zint.Add(sum, zint.Mul(c, c))
	}
	return sum
}

// middle is how many ways there are to choose m of 2 m things.
func middle(m int) api.Int {
	ways := zint.Of(1)
	for i := 1; i <= m; i++ { // i of m + i things
		ways = quotient(zint.Mul(ways, zint.Of(m+i)), zint.Of(i))
	}
	return ways
}

// powerAbove is the least power, from 1 on, of a base above 1 that is greater than a number above 0. Of the base's powers by
// 1, 2, 4 and so on, those that are not greater are multiplied, the greatest first, as long as they don't get there.
func powerAbove(base, a api.Int) int {
	var squares []api.Int
	for square := base; zint.Cmp(square, a) <= 0; square = zint.Mul(square, square) {
		squares = append(squares, square)
	}
	k, reached := 0, zint.Of(1)
	for i, square := range slices.Backward(squares) {
		if next := zint.Mul(reached, square); zint.Cmp(next, a) <= 0 {
			k, reached = k+1<<i, next
		}
	}
	return k + 1
}

// power is a number times itself, n times. It may have more bits than zint.Pow allows.
func power(a api.Int, n int) api.Int {
	z := zint.Of(1)
	for i := bits.Len(uint(n)) - 1; i >= 0; i-- {
		z = zint.Mul(z, z)
		if n>>i&1 == 1 {
			z = zint.Mul(z, a)
		}
	}
	return z
}

// bitsOf is how many bits a plain number above 0 has.
func bitsOf(a api.Int) int {
	last := len(a.Abs) - 1
	return last*64 + bits.Len64(a.Abs[last])
}

// quotient is how often b, which is not 0, goes into a.
func quotient(a, b api.Int) api.Int {
	z, _, _ := zint.Div(a, b)
	return z
}
