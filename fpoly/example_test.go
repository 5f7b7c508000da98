package fpoly_test

import (
	"fmt"

	"cleaver/fpoly"
	"cleaver/zint"
)

func Example() {
	quotient, rest, _ := fpoly.Div([]int{1, 0, 0, 1}, []int{1, 2}, 7)
	fmt.Println(quotient, rest)

	power, _ := fpoly.PowMod([]int{0, 1}, zint.Of(7), []int{1, 0, 1}, 7)
	fmt.Println(power)
	// Output:
	// [1 5 4] []
	// [0 6]
}
