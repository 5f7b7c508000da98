package prime_test

import (
	"fmt"

	"cleaver/prime"
	"cleaver/rat"
	"cleaver/zint"
)

func Example() {
	next, _ := prime.Next(7)
	fmt.Println(next)

	below, _ := prime.Near(zint.Of(5), zint.Of(8))
	half, _ := prime.Near(zint.Of(4), zint.Of(8))
	fmt.Println(zint.Text(below), zint.Text(half))

	both, _ := prime.Crt(zint.Of(2), zint.Of(3), zint.Of(3), zint.Of(5))
	fmt.Println(zint.Text(both))

	third, _ := prime.Fraction(zint.Of(34), zint.Of(101))
	fmt.Println(rat.Text(third))
	// Output:
	// 11
	// -3 4
	// 8
	// 1/3
}
