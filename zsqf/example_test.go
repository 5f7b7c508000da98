package zsqf_test

import (
	"fmt"

	"cleaver/api"
	"cleaver/zint"
	"cleaver/zpoly"
	"cleaver/zsqf"
)

func Example() {
	show := func(a []api.Int) (texts []string) {
		for _, c := range a {
			texts = append(texts, zint.Text(c))
		}
		return texts
	}
	a := zpoly.Of(2, -2, -2, 2)
	parts, _ := zsqf.Parts(a)
	for _, part := range parts {
		fmt.Println(show(part.P), part.N)
	}

	radical, _ := zsqf.Radical(a)
	fmt.Println(show(radical))

	is, _ := zsqf.Is(radical)
	fmt.Println(is)

	bound, _ := zsqf.Bound(zpoly.Of(-1, 0, 1))
	fmt.Println(zint.Text(bound))
	// Output:
	// [1 1] 1
	// [-1 1] 2
	// [-1 0 1]
	// true
	// 8
}
