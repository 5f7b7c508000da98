package fp_test

import (
	"fmt"

	"cleaver/fp"
)

func Example() {
	over, _ := fp.Inv(3, 7)
	power, _ := fp.Pow(2, 10, 11)
	fmt.Println(over, power)
	// Output:
	// 5 1
}
