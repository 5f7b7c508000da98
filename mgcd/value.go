package mgcd

import (
	"slices"

	"cleaver/api"
	"cleaver/mpoly"
	"cleaver/zint"
)

// last tells the last one of some things; there is one.
func last[T any](things []T) T { return things[len(things)-1] }

// exponents are a term's; those of variables that are not there are 0.
type exponents [api.MaxVars]int

func (x exponents) plus(y exponents) exponents {
	for i := range x {
		x[i] += y[i]
	}
	return x
}

func (x exponents) less(y exponents) exponents {
	for i := range x {
		x[i] -= y[i]
	}
	return x
}

// least has the lesser exponent of each variable.
func (x exponents) least(y exponents) exponents {
	for i := range x {
		x[i] = min(x[i], y[i])
	}
	return x
}

// isWithin: is no exponent below 0, or above that of y?
func (x exponents) isWithin(y exponents) bool {
	return x.least(exponents{}) == exponents{} && x.least(y) == x
}

// term is one of a plain polynomial.
type term struct {
	at exponents
	c  api.Int
}

// inner are the terms of a polynomial.
func inner(a []api.Term) []term {
	l := make([]term, len(a))
	for k, t := range a {
		copy(l[k].at[:], t.E)
		l[k].c = t.C
	}
	return l
}

// outer is the polynomial of some terms.
func outer(n int, l []term) []api.Term {
	a := make([]api.Term, len(l))
	for k, t := range l {
		a[k] = api.Term{C: t.c, E: slices.Clone(t.at[:n])}
	}
	return a
}

// degrees are the greatest exponents of all variables.
func degrees(l []term) exponents {
	highest := exponents{}
	for _, t := range l {
		for i, e := range t.at {
			highest[i] = max(highest[i], e)
		}
	}
	return highest
}

// lowest are the least exponents of all variables; of nought, which all powers divide, the greatest that may be.
func lowest(l []term) exponents {
	low := exponents{}
	for i := range low {
		low[i] = api.MaxExp
	}
	for _, t := range l {
		low = low.least(t.at)
	}
	return low
}

// parted is a polynomial as a number, powers of the variables, and what is left: primitive, and divided by no variable. Of nought that
// is nought.
type parted struct {
	number api.Int
	powers exponents
	rest   []term
}

// part parts a polynomial, if it may be.
func part(n int, a []api.Term) (parted, api.Errno) {
	number, prim, e := mpoly.Prim(n, a)
	if e != api.OK {
		return parted{}, e
	}
	rest := inner(prim)
	low := lowest(rest)
	for k := range rest {
		rest[k].at = rest[k].at.less(low)
	}
	return parted{number, low, rest}, api.OK
}

// partSome parts a polynomial that is not nought.
func partSome(n int, a []api.Term) (parted, api.Errno) {
	x, e := part(n, a)
	if e == api.OK && len(x.rest) == 0 {
		return parted{}, api.ErrNought
	}
	return x, e
}

// told is the polynomial again.
func (x parted) told(n int) []api.Term {
	l := make([]term, len(x.rest))
	for k, t := range x.rest {
		l[k] = term{t.at.plus(x.powers), zint.Mul(t.c, x.number)}
	}
	return outer(n, l)
}
