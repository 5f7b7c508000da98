package flin_test

import (
	"fmt"

	"cleaver/flin"
)

func Example() {
	rows, _ := flin.Echelon([][]int{{1, 2}, {2, 4}, {0, 3}}, 5)
	fmt.Println(rows)

	basis, _ := flin.Null([][]int{{1, 2, 3}}, 3, 5)
	fmt.Println(basis)

	sums, _ := flin.Apply([][]int{{1, 2, 3}, {0, 1, 1}}, []int{3, 1, 0}, 5)
	fmt.Println(sums)
	// Output:
	// [[1 0] [0 1]]
	// [[3 1 0] [2 0 1]]
	// [0 1]
}
