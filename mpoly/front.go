package mpoly

import (
	"container/heap"

	"cleaver/api"
	"cleaver/zint"
)

// front makes the products of all terms of two lists, the first ones in the order of terms first: of each row, which is one of left's
// terms by all of right's, just the next product waits. So one may stop at any term, and no more than a row each is kept.
type front struct {
	left, right []term
	next        []int               // by row, how many of right's terms it has gone through
	waiting     map[exponents][]int // rows by the exponents of their next products
	order       heights             // these exponents
	idle        []int               // rows that have gone through all of right
}

// heights is a heap of exponents, those that go first on top.
type heights []exponents

func (h heights) Len() int           { return len(h) }
func (h heights) Less(i, j int) bool { return compare(h[i], h[j]) > 0 }
func (h heights) Swap(i, j int)      { h[i], h[j] = h[j], h[i] }
func (h *heights) Push(x any)        { *h = append(*h, x.(exponents)) }
func (h *heights) Pop() any {
	end := len(*h) - 1
	last := (*h)[end]
	*h = (*h)[:end]
	return last
}

func newFront(left, right []term) *front {
	f := &front{left: left, right: right, next: make([]int, len(left)), waiting: map[exponents][]int{}}
	for row := range left {
		f.put(row)
	}
	return f
}

// put lets a row wait with its next product, if it has one.
func (f *front) put(row int) {
	if f.next[row] == len(f.right) {
		f.idle = append(f.idle, row)
		return
	}
	at := f.left[row].at.plus(f.right[f.next[row]].at)
	rows, known := f.waiting[at]
	if !known {
		heap.Push(&f.order, at)
	}
	f.waiting[at] = append(rows, row)
}

// grow adds a term to right, which goes behind all that are there.
func (f *front) grow(t term) {
	f.right = append(f.right, t)
	rows := f.idle
	f.idle = nil
	for _, row := range rows {
		f.put(row)
	}
}

// take is the sum of all products with the first exponents that wait; there are some.
func (f *front) take() term {
	at := heap.Pop(&f.order).(exponents)
	rows := f.waiting[at]
	delete(f.waiting, at)
	sum := api.Int{}
	for _, row := range rows {
		sum = zint.Add(sum, zint.Mul(f.left[row].c, f.right[f.next[row]].c))
		f.next[row]++
		f.put(row)
	}
	return term{at, sum}
}

// product is what is answered of the product of two.
func product(n int, a, b []term) ([]api.Term, api.Errno) {
	if len(a) > len(b) {
		a, b = b, a
	}
	for _, d := range degrees(a).plus(degrees(b)) { // the highest terms' product is not nought
		if d > api.MaxExp {
			return nil, api.ErrLimit
		}
	}
	var l []term
	for f := newFront(a, b); len(f.order) > 0 && len(l) <= api.MaxTerms; {
		if t := f.take(); zint.Sign(t.c) != 0 {
			l = append(l, t)
		}
	}
	return told(n, l)
}
