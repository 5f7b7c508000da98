package mpoly_test

import (
	"fmt"
	"strings"

	"cleaver/api"
	"cleaver/mpoly"
	"cleaver/zint"
)

func Example() {
	show := func(a []api.Term) {
		var texts []string
		for _, t := range a {
			texts = append(texts, fmt.Sprintf("%s x%d y%d", zint.Text(t.C), t.E[0], t.E[1]))
		}
		fmt.Println(strings.Join(texts, ", "))
	}
	x, _ := mpoly.Var(2, 0)
	y, _ := mpoly.Var(2, 1)
	sum, _ := mpoly.Add(2, x, y)
	difference, _ := mpoly.Sub(2, x, y)
	product, _ := mpoly.Mul(2, sum, difference)
	show(product)

	quotient, _ := mpoly.Div(2, product, sum)
	show(quotient)

	_, e := mpoly.Div(2, product, []api.Term{{C: zint.Of(1), E: []int{0, 3}}})
	fmt.Println(e == api.ErrExact)

	number, rest, _ := mpoly.Prim(2, []api.Term{{C: zint.Of(4), E: []int{0, 1}}, {C: zint.Of(-2), E: []int{1, 0}}})
	fmt.Println(zint.Text(number))
	show(rest)
	// Output:
	// 1 x2 y0, -1 x0 y2
	// 1 x1 y0, -1 x0 y1
	// true
	// -2
	// 1 x1 y0, -2 x0 y1
}
