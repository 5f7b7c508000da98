package fsqf_test

import (
	"fmt"

	"cleaver/fsqf"
)

func Example() {
	parts, _ := fsqf.Parts([]int{0, 0, 0, 1, 1}, 3)
	fmt.Println(parts)

	radical, _ := fsqf.Radical([]int{0, 0, 0, 1, 1}, 3)
	fmt.Println(radical)

	is, _ := fsqf.Is([]int{0, 1, 1}, 3)
	fmt.Println(is)
	// Output:
	// [{[1 1] 1} {[0 1] 3}]
	// [0 1 1]
	// true
}
