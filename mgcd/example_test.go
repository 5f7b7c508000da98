package mgcd_test

import (
	"fmt"
	"strings"

	"cleaver/api"
	"cleaver/mgcd"
	"cleaver/zint"
)

func Example() {
	show := func(a []api.Term) {
		var texts []string
		for _, t := range a {
			texts = append(texts, fmt.Sprintf("%s x%d y%d", zint.Text(t.C), t.E[0], t.E[1]))
		}
		fmt.Println(strings.Join(texts, ", "))
	}
	difference := []api.Term{{C: zint.Of(1), E: []int{2, 0}}, {C: zint.Of(-1), E: []int{0, 2}}}
	square := []api.Term{{C: zint.Of(1), E: []int{2, 0}}, {C: zint.Of(2), E: []int{1, 1}}, {C: zint.Of(1), E: []int{0, 2}}}
	shared, _ := mgcd.Gcd(2, difference, square)
	show(shared)

	once, _ := mgcd.Radical(2, []api.Term{{C: zint.Of(4), E: []int{2, 1}}})
	show(once)

	first, _ := mgcd.Is(2, difference)
	second, _ := mgcd.Is(2, square)
	fmt.Println(first, second)

	_, e := mgcd.Is(2, nil)
	fmt.Println(e == api.ErrNought)
	// Output:
	// 1 x1 y0, 1 x0 y1
	// 1 x1 y1
	// true false
	// true
}
