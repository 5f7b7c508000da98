package zpoly_test

import (
	"fmt"

	"cleaver/api"
	"cleaver/zint"
	"cleaver/zpoly"
)

func Example() {
	show := func(a []api.Int) {
		var texts []string
		for _, c := range a {
			texts = append(texts, zint.Text(c))
		}
		fmt.Println(texts)
	}
	quotient, _ := zpoly.Div(zpoly.Of(-1, 0, 1), zpoly.Of(1, 1))
	show(quotient)

	_, e := zpoly.Div(zpoly.Of(0, 0, 1), zpoly.Of(0, 2))
	fmt.Println(e == api.ErrExact)

	a := zpoly.Of(4, -6)
	fmt.Println(zint.Text(zpoly.Content(a)))
	show(zpoly.Prim(a))

	show(zpoly.Shift(zpoly.Of(0, 0, 1), zint.Of(1)))
	// Output:
	// [-1 1]
	// true
	// -2
	// [-2 3]
	// [1 2 1]
}
