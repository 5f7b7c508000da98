package rat_test

import (
	"fmt"

	"cleaver/rat"
	"cleaver/zint"
)

func Example() {
	a, _ := rat.Make(zint.Of(6), zint.Of(-4))
	fmt.Println(rat.Text(a))

	half, _ := rat.Parse("1/2")
	third, _ := rat.Parse("1/3")
	fmt.Println(rat.Text(rat.Add(half, third)))

	_, e := rat.Parse("2/4")
	fmt.Println(e)

	shortened, _ := rat.Make(zint.Of(12), zint.Of(18))
	fmt.Println(rat.Text(shortened))
	// Output:
	// -3/2
	// 5/6
	// cleaver: error 2
	// 2/3
}
