package mpoly

import (
	"cleaver/api"
	"cleaver/modulus"
	"cleaver/zint"
)

// goesInto tells whether there is a q with a = q b, without q, which may have more terms than one can go through; neither a nor b is nought.
// There is one, if b's content goes into a's, and b into a for each variable, as polynomials of that one alone, whose coefficients may be
// divided by all that has it not: for what b is short of has none of the variables then. That is tried by primes, with numbers in the
// place of the other variables: if b goes into a, it does so in every try. So false is always right.
//
// And true is, as there are more tries than any a and b could pass by: If b does not go into a, as polynomials of one variable, there is a
// rest, after a is multiplied by powers of b's first coefficient. One of the rest's coefficients, by that first one, is a polynomial of
// degree below 2^23, of numbers below 2^(2^28). Some 2^22 primes may divide it, of those from 2^62 to 2^63, which are more than 2^56; by the
// others it is 0 at no more than one of 2^39 places. So no more than one try of 2^34 sees nothing. For each word of a and b there
// are two tries, which makes 68 bits for 64: if the tries are any ones, it is by a chance of one in 2^100 that there is even one such
// pair among all that may be handed in, of any length, whoever thinks it out.
func goesInto(b, a []term) bool {
	ofA, ofB := content(a), content(b)
	if _, e := zint.Exact(ofA, ofB); e != api.OK {
		return false
	}
	a, b = over(a, ofA), over(b, ofB) // the fewer words are left, the fewer tries
	l := &modulus.Lot{}
	for range 2*(words(a)+words(b)) + 4 {
		if !goesBy(newTry(l), b, a) {
			return false
		}
	}
	return true
}

// words is how many of 64 bits say all of a polynomial: a term's exponents and sign take one.
func words(l []term) int {
	sum := len(l)
	for _, t := range l {
		sum += len(t.c.Abs)
	}
	return sum
}

// try is a prime, and a number in each variable's place.
type try struct {
	*modulus.Modulus
	places [api.MaxVars]uint64
}

func newTry(l *modulus.Lot) *try {
	t := &try{Modulus: l.Prime()}
	for i := range t.places {
		t.places[i] = l.Below(t.P)
	}
	return t
}

// goesBy: does b go into a for each of its variables, by this try?
func goesBy(t *try, b, a []term) bool {
	inB, inA := t.seen(b), t.seen(a)
	for i, degree := range degrees(b) {
		if degree > 0 && !t.divides(inB[i], inA[i]) {
			return false
		}
	}
	return true
}

// seen is a polynomial of each variable alone, the lowest coefficient first: the variable that many times, with all places taken. Each is
// so by the same number, which says nothing to what goes into what.
func (t *try) seen(l []term) [api.MaxVars][]uint64 {
	all, powers := [api.MaxVars][]uint64{}, [api.MaxVars][]uint64{}
	for i, degree := range degrees(l) {
		all[i] = make([]uint64, degree+1)
		powers[i] = t.Powers(t.places[i], int(degree))
	}
	ahead := [api.MaxVars + 1]uint64{t.One} // the product of the powers ahead of each variable
	last := exponents{-1}
	for _, u := range l {
		for i := unlike(u.at, last); i < len(u.at); i++ {
			ahead[i+1] = t.Times(ahead[i], powers[i][u.at[i]])
		}
		last = u.at
		value := t.Times(t.Rest(u.c), ahead[len(u.at)])
		for i, e := range u.at {
			all[i][e] = t.Plus(all[i][e], value)
		}
	}
	return all
}

// unlike is the first place at which exponents are.
func unlike(x, y exponents) int {
	for i := range x {
		if x[i] != y[i] {
			return i
		}
	}
	return len(x)
}

// divides: does b go into a? It takes all rests in a's place.
func (t *try) divides(b, a []uint64) bool {
	for len(b) > 0 && b[len(b)-1] == 0 {
		b = b[:len(b)-1]
	}
	if len(b) > 0 {
		top := len(b) - 1
		inverse := t.Inverse(b[top])
		for ; len(a) > top; a = a[:len(a)-1] {
			t.takeTimes(a[len(a)-len(b):], b, t.Times(a[len(a)-1], inverse))
		}
	}
	for _, r := range a {
		if r != 0 {
			return false
		}
	}
	return true
}

// takeTimes takes b away from a that many times.
func (t *try) takeTimes(a, b []uint64, n uint64) {
	if n == 0 {
		return
	}
	less := t.P - n
	for k, r := range b {
		if r != 0 {
			a[k] = t.Plus(a[k], t.Times(r, less))
		}
	}
}
