package lattice_test

import (
	"fmt"

	"cleaver/api"
	"cleaver/lattice"
	"cleaver/zint"
)

func Example() {
	show := func(a []api.Int) (texts []string) {
		for _, x := range a {
			texts = append(texts, zint.Text(x))
		}
		return texts
	}
	basis := [][]api.Int{{zint.Of(1), zint.Of(0)}, {zint.Of(4), zint.Of(1)}}
	before, _ := lattice.Reduced(basis)
	short, _ := lattice.Reduce(basis)
	after, _ := lattice.Reduced(short)
	fmt.Println(before, after)
	for _, row := range short {
		fmt.Println(show(row))
	}

	times, _ := lattice.In(basis, []api.Int{zint.Of(3), zint.Of(-2)})
	fmt.Println(show(times))

	other := [][]api.Int{{zint.Of(1), zint.Of(2)}, {zint.Of(3), zint.Of(4)}}
	dot, _ := lattice.Dot(other[0], other[1])
	gram, _ := lattice.Gram(other)
	fmt.Println(zint.Text(dot), zint.Text(gram))
	// Output:
	// false true
	// [1 0]
	// [0 1]
	// [11 -2]
	// 11 4
}
