package short_test

import (
	"slices"
	"testing"

	"cleaver/api"
	"cleaver/ffac"
	"cleaver/hensel"
	"cleaver/prime"
	"cleaver/short"
	"cleaver/zpoly"
	"cleaver/zsqf"
)

// P15.4: what follows, told by the calls alone.

// answered is what a call answers that may not answer an error.
func answered[T any](t *testing.T) func(a T, e api.Errno) T {
	return func(a T, e api.Errno) T {
		t.Helper()
		if e != api.OK {
			t.Fatal(a, e)
		}
		return a
	}
}

// allFound are the factors that all of a's irreducible ones by p tell, in order, each once.
func allFound(t *testing.T, a []api.Int, p int) [][]api.Int {
	locals := answered[[][]int](t)(ffac.Split(answered[[]int](t)(zpoly.Mod(a, p)), p, nil))
	k := 1
	for _, f := range locals {
		k = max(k, answered[int](t)(short.Need(a, p, len(f)-1)))
	}
	var all [][]api.Int
	for _, h := range answered[[][]api.Int](t)(hensel.Lift(a, locals, p, k)) {
		all = append(all, answered[[]api.Int](t)(short.Find(a, h, p, k)))
	}
	slices.SortFunc(all, func(x, y []api.Int) int {
		switch {
		case zpoly.Less(x, y):
			return -1
		case zpoly.Less(y, x):
			return 1
		}
		return 0
	})
	return slices.CompactFunc(all, same)
}

// some calls f with polynomials that are squarefree, whose factors nobody tells.
func some(f func(a []api.Int)) {
	m := newMaker(6)
	for range 200 {
		a := make([]api.Int, 2+m.IntN(7))
		for i := range a {
			a[i] = small(m.IntN(19) - 9)
		}
		if m.IntN(2) == 0 {
			a = zpoly.Mul(a, a[:len(a)/2+1])
			a = zpoly.Add(a, zpoly.Of(0, m.IntN(2)))
		}
		if is, e := zsqf.Is(a); is && e == api.OK && len(zpoly.Norm(a)) > 1 {
			f(a)
		}
	}
	for range 20 {
		f(m.unplain(m.product(3, 28, 12).a))
	}
}

// Of all of them the factors found are all that a has: their product is a without its content, and by each prime they are
// the same.
func TestAllAreFound(t *testing.T) {
	some(func(a []api.Int) {
		var wanted [][]api.Int
		primes := 0
		for p := 2; primes < 4; p = answered[int](t)(prime.Next(p)) {
			if !answered[bool](t)(short.Good(a, p)) {
				continue
			}
			found := allFound(t, a, p)
			product := zpoly.Of(1)
			for _, f := range found {
				product = zpoly.Mul(product, f)
			}
			if !same(product, zpoly.Prim(a)) {
				t.Fatalf("%s by %d: the product is %s", text(a), p, text(product))
			}
			if primes > 0 && !slices.EqualFunc(found, wanted, same) {
				t.Fatalf("%s by %d: not as by the prime ahead", text(a), p)
			}
			wanted = found
			primes++
		}
	})
}

// A factor that is found has no other one, and is found of itself, and of what it is a factor of.
func TestFoundOnesAreIrreducible(t *testing.T) {
	some(func(a []api.Int) {
		p := 101
		for !answered[bool](t)(short.Good(a, p)) {
			p = answered[int](t)(prime.Next(p))
		}
		for _, f := range allFound(t, a, p) {
			if all := allFound(t, f, p); len(all) != 1 || !same(all[0], f) {
				t.Fatalf("%s by %d: %s has others", text(a), p, text(f))
			}
			if _, e := zpoly.Div(zpoly.Prim(a), f); e != api.OK {
				t.Fatalf("%s by %d: %s divides it not", text(a), p, text(f))
			}
		}
	})
}

// The factors of a product of two that have none in common are those of both.
func TestFactorsOfProducts(t *testing.T) {
	m := newMaker(7)
	for range 25 {
		c := m.product(4, 28, 12)
		half := len(c.factors) / 2
		a, b := put(2, c.factors[:half]...).a, put(-5, c.factors[half:]...).a
		p := m.prime(put(10, c.factors...), 500)
		var wanted [][]api.Int
		if half > 0 {
			wanted = allFound(t, a, p)
		}
		wanted = append(wanted, allFound(t, b, p)...)
		found := allFound(t, zpoly.Mul(a, b), p)
		for _, f := range wanted {
			if len(found) != len(wanted) || !slices.ContainsFunc(found, func(g []api.Int) bool { return same(f, g) }) {
				t.Fatalf("%s and %s by %d: %s", text(a), text(b), p, text(f))
			}
		}
	}
}

// Which power it is that is high enough is no matter, nor is what a is multiplied by, or how it stands.
func TestFindOfTheSame(t *testing.T) {
	m := newMaker(8)
	some(func(a []api.Int) {
		p := 2 + m.IntN(1000)
		for {
			p = answered[int](t)(prime.Next(p))
			if answered[bool](t)(short.Good(a, p)) {
				break
			}
		}
		locals := answered[[][]int](t)(ffac.Split(answered[[]int](t)(zpoly.Mod(a, p)), p, nil))
		place := m.IntN(len(locals))
		k := answered[int](t)(short.Need(a, p, len(locals[place])-1))
		var wanted []api.Int
		for _, more := range []int{0, 1, 2, 40} {
			h := answered[[][]api.Int](t)(hensel.Lift(a, locals, p, k+more))[place]
			for i, other := range [][]api.Int{a, zpoly.Scale(a, small(-1)), zpoly.Scale(a, small(p+1)), m.unplain(zpoly.Norm(a))} {
				z := answered[[]api.Int](t)(short.Find(other, h, p, k+more))
				if more == 0 && i == 0 {
					wanted = z
				}
				if !same(z, wanted) {
					t.Fatalf("%s, %s, %d, %d: %s, not %s", text(other), text(h), p, k+more, text(z), text(wanted))
				}
			}
		}
	})
}
