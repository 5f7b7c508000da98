package ffac_test

import (
	"fmt"

	"cleaver/ffac"
)

func Example() {
	factors, _ := ffac.Factors([]int{1, 0, 2, 0, 1}, 5, nil)
	fmt.Println(factors)

	alone, _ := ffac.Irreducible([]int{1, 0, 1}, 3)
	fmt.Println(alone)

	products, _ := ffac.Degrees([]int{0, -1, 0, 1}, 3)
	fmt.Println(products)

	single, _ := ffac.Split([]int{0, -1, 0, 1}, 3, []int{7, 20, 1})
	fmt.Println(single)
	fmt.Println(ffac.Less([]int{2, 1}, []int{0, 0, 1}))
	// Output:
	// [{[2 1] 2} {[3 1] 2}]
	// true
	// [[0 2 0 1] [1] [1]]
	// [[0 1] [1 1] [2 1]]
	// true
}
