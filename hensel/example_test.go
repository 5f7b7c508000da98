package hensel_test

import (
	"fmt"

	"cleaver/api"
	"cleaver/hensel"
	"cleaver/zint"
	"cleaver/zpoly"
)

func Example() {
	show := func(a []api.Int) (texts []string) {
		for _, c := range a {
			texts = append(texts, zint.Text(c))
		}
		return texts
	}
	factors, _ := hensel.Lift(zpoly.Of(1, 0, 1), [][]int{{2, 1}, {3, 1}}, 5, 2)
	for _, factor := range factors {
		fmt.Println(show(factor))
	}

	square, _ := hensel.Power(5, 2)
	product, _ := hensel.Mul(factors[0], factors[1], square)
	fmt.Println(zint.Text(square), show(product))

	quotient, rest, _ := hensel.Div(product, factors[0], square)
	fmt.Println(show(quotient), show(rest))

	near, _ := hensel.Near(quotient, square)
	fmt.Println(show(near))
	// Output:
	// [7 1]
	// [18 1]
	// 25 [1 0 1]
	// [18 1] []
	// [-7 1]
}
