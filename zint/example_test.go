package zint_test

import (
	"fmt"

	"cleaver/zint"
)

func Example() {
	q, r, _ := zint.Div(zint.Of(-7), zint.Of(-2))
	fmt.Println(zint.Text(q), zint.Text(r))

	g, s, t := zint.Bezout(zint.Of(12), zint.Of(-18))
	fmt.Println(zint.Text(g), zint.Text(s), zint.Text(t))

	root, _ := zint.Root(zint.Of(26), 3)
	fmt.Println(zint.Text(root))
	// Output:
	// 4 1
	// 6 -1 -1
	// 2
}
