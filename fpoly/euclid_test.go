package fpoly_test

import (
	"testing"

	"cleaver/api"
	"cleaver/fpoly"
)

// P6.2

func TestGcd(t *testing.T) {
	for _, c := range []struct {
		a, b []int
		p    int
		gcd  []int
	}{
		{nil, nil, 7, nil}, {[]int{0, 7}, []int{-7}, 7, nil}, {[]int{3}, nil, 7, []int{1}}, {nil, []int{3, 2}, 7, []int{5, 1}}, {[]int{2, 4, 3, 0}, []int{0}, 7, []int{3, 6, 1}},
		{[]int{-1, 0, 1}, []int{1, 2, 1}, 7, []int{1, 1}}, {[]int{-1, 0, 3}, []int{5}, 7, []int{1}}, {[]int{1, 0, 1}, []int{1, 1}, 2, []int{1, 1}}, {[]int{1, 0, 1}, []int{1, 1}, 3, []int{1}},
		{[]int{-1, 0, 0, 0, 0, 0, 1}, []int{-1, 0, 0, 0, 1}, 65521, []int{65520, 0, 1}},
	} {
		is, e := fpoly.Gcd(c.a, c.b, c.p)
		want(t, said("Gcd", c.p, c.a, c.b), is, e, c.gcd)
	}
}

// divides tells it by hand.
func divides(d, a []int, p int) bool {
	_, rest := long(a, d, p)
	return len(rest) == 0
}

// Of all monic polynomials that divide both it is the only one of the greatest degree.
func TestGcdAmongAll(t *testing.T) {
	for p, n := range map[int]int{2: 5, 3: 3, 5: 2} {
		for _, a := range all(n, p) {
			for _, b := range all(n, p) {
				var wanted []int
				for degree := 0; degree < n && len(norm(a, p))+len(norm(b, p)) > 0; degree++ {
					for _, low := range all(degree, p) {
						if d := append(low, 1); divides(d, a, p) && divides(d, b, p) {
							wanted = d
						}
					}
				}
				is, e := fpoly.Gcd(a, b, p)
				want(t, said("Gcd", p, a, b), is, e, norm(wanted, p))
			}
		}
	}
}

func TestGcdIsBezouts(t *testing.T) {
	pairs(func(a, b []int, p int) {
		g, _, _, _ := fpoly.Bezout(a, b, p)
		is, e := fpoly.Gcd(a, b, p)
		want(t, said("Gcd", p, a, b), is, e, g)
	})
}

// rows goes row by row, as the document has it.
func rows(a, b []int, p int) (g, s, u []int) {
	type row struct{ first, ofA, ofB []int }
	last, next := row{norm(a, p), []int{1}, nil}, row{norm(b, p), nil, []int{1}}
	for len(next.first) > 0 {
		q, rest := long(last.first, next.first, p)
		last, next = next, row{rest, minus(last.ofA, times(q, next.ofA, p), p), minus(last.ofB, times(q, next.ofB, p), p)}
	}
	if len(last.first) == 0 {
		return last.first, last.ofA, last.ofB
	}
	by := []int{over(last.first[len(last.first)-1], p)}
	return times(last.first, by, p), times(last.ofA, by, p), times(last.ofB, by, p)
}

func checkBezout(t *testing.T, a, b []int, p int) {
	t.Helper()
	g, s, u, e := fpoly.Bezout(a, b, p)
	wantedG, wantedS, wantedU := rows(a, b, p)
	want(t, said("Bezout, g", p, a, b), g, e, wantedG)
	want(t, said("Bezout, s", p, a, b), s, e, wantedS)
	want(t, said("Bezout, t", p, a, b), u, e, wantedU)
	if made := plus(times(s, a, p), times(u, b, p), p); len(minus(made, g, p)) > 0 {
		t.Fatalf("%s: %v, %v, %v make %v", said("Bezout", p, a, b), g, s, u, made)
	}
}

func TestBezout(t *testing.T) {
	pairs(func(a, b []int, p int) { checkBezout(t, a, b, p) })
	m := newMaker(2)
	for _, p := range primes() {
		for range 20 {
			shared := m.unlike(8, p)
			checkBezout(t, times(shared, m.some(15, p), p), times(shared, m.some(15, p), p), p)
		}
	}
}

// The rows are those of the document, also where others would do: of two noughts, of one, of multiples, of constants.
func TestBezoutOfSome(t *testing.T) {
	for _, c := range []struct{ a, b, g, s, t []int }{
		{nil, nil, nil, []int{1}, nil},
		{[]int{0, 7}, []int{-7, 0, 0}, nil, []int{1}, nil},
		{[]int{1, 3}, nil, []int{5, 1}, []int{5}, nil},
		{nil, []int{1, 3}, []int{5, 1}, nil, []int{5}},
		{[]int{1, 3}, []int{1, 3}, []int{5, 1}, nil, []int{5}},
		{[]int{1, 3}, []int{2, 6}, []int{5, 1}, nil, []int{6}},
		{[]int{1, 3}, []int{2, 7, 4}, []int{1}, []int{4, 2}, []int{2}},
		{[]int{3}, []int{2}, []int{1}, nil, []int{4}},
		{[]int{3}, []int{0, 1}, []int{1}, []int{5}, nil},
		{[]int{0, 1}, []int{3}, []int{1}, nil, []int{5}},
		{[]int{0, 1}, []int{1, 1}, []int{1}, []int{6}, []int{1}},
	} {
		g, s, u, e := fpoly.Bezout(c.a, c.b, 7)
		want(t, said("Bezout, g", 7, c.a, c.b), g, e, c.g)
		want(t, said("Bezout, s", 7, c.a, c.b), s, e, c.s)
		want(t, said("Bezout, t", 7, c.a, c.b), u, e, c.t)
	}
}

// Only a number by which there is no field is refused.
func TestEuclidTakesAll(t *testing.T) {
	for _, p := range primes() {
		for _, a := range edges(p) {
			for _, b := range edges(p) {
				if _, e := fpoly.Gcd(a, b, p); e != api.OK {
					t.Errorf("%s: %v", said("Gcd", p, a, b), e)
				}
				if _, _, _, e := fpoly.Bezout(a, b, p); e != api.OK {
					t.Errorf("%s: %v", said("Bezout", p, a, b), e)
				}
			}
		}
	}
}
