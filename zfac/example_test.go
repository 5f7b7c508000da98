package zfac_test

import (
	"fmt"

	"cleaver/api"
	"cleaver/zfac"
	"cleaver/zint"
	"cleaver/zpoly"
)

func Example() {
	show := func(a []api.Int) (texts []string) {
		for _, c := range a {
			texts = append(texts, zint.Text(c))
		}
		return texts
	}
	content, factors, _ := zfac.Factors(zpoly.Of(2, -2, -2, 2), nil)
	fmt.Println(zint.Text(content))
	for _, f := range factors {
		fmt.Println(show(f.P), f.N)
	}

	split, _ := zfac.Split(zpoly.Of(-1, 0, 0, 0, 1), []int{5})
	for _, f := range split {
		fmt.Println(show(f))
	}

	alone, _ := zfac.Irreducible(zpoly.Of(1, 0, 0, 0, 1))
	fmt.Println(alone)
	// Output:
	// 2
	// [-1 1] 2
	// [1 1] 1
	// [-1 1]
	// [1 1]
	// [1 0 1]
	// true
}
