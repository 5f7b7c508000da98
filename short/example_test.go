package short_test

import (
	"fmt"

	"cleaver/api"
	"cleaver/hensel"
	"cleaver/short"
	"cleaver/zint"
	"cleaver/zpoly"
)

func Example() {
	show := func(a []api.Int) (texts []string) {
		for _, c := range a {
			texts = append(texts, zint.Text(c))
		}
		return texts
	}
	a := zpoly.Of(1, 0, 0, 0, 1)
	good, _ := short.Good(a, 17)
	bad, _ := short.Good(a, 2)
	fmt.Println(good, bad)

	k, _ := short.Need(a, 17, 1)
	fmt.Println(k)

	locals, _ := hensel.Lift(a, [][]int{{2, 1}, {8, 1}, {9, 1}, {15, 1}}, 17, k)
	factor, _ := short.Find(a, locals[0], 17, k)
	fmt.Println(show(locals[0]), show(factor))
	// Output:
	// true false
	// 5
	// [811667 1] [1 0 0 0 1]
}
