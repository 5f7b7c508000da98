package nat_test

import (
	"fmt"

	"cleaver/nat"
)

func Example() {
	a, _ := nat.Parse("18446744073709551615")
	sum := nat.Add(a, []uint64{1})
	fmt.Println(sum, nat.Text(sum))

	b, _ := nat.Shl([]uint64{1}, 128)
	unit, _ := nat.Parse("10000000000000000000")
	quotient, rest, _ := nat.Div(b, unit)
	fmt.Println(nat.Text(quotient), nat.Text(rest))
	// Output:
	// [0 1] 18446744073709551616
	// 34028236692093846346 3374607431768211456
}
