package zgcd_test

import (
	"fmt"

	"cleaver/api"
	"cleaver/zgcd"
	"cleaver/zint"
	"cleaver/zpoly"
)

func Example() {
	show := func(a []api.Int) {
		var texts []string
		for _, c := range a {
			texts = append(texts, zint.Text(c))
		}
		fmt.Println(texts)
	}
	z, _ := zgcd.Resultant(zpoly.Of(-2, 0, 1), zpoly.Of(-3, 0, 1))
	fmt.Println(zint.Text(z))

	show(zgcd.Gcd(zpoly.Of(-4, 0, 4), zpoly.Of(6, 6)))

	quotient, rest, _ := zgcd.Pseudo(zpoly.Of(0, 0, 1), zpoly.Of(1, 2))
	show(quotient)
	show(rest)
	// Output:
	// 1
	// [2 2]
	// [-1 2]
	// [1]
}
