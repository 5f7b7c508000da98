package mpoly

import (
	"slices"

	"cleaver/api"
	"cleaver/zint"
)

// exponents are a term's; those of variables that are not there are 0.
type exponents [api.MaxVars]int16

// compare is above 0, if terms with the exponents x go ahead of those with y, below 0, if behind them, 0, if they are the same.
func compare(x, y exponents) int { return slices.Compare(x[:], y[:]) }

func (x exponents) plus(y exponents) exponents {
	for i := range x {
		x[i] += y[i]
	}
	return x
}

func (x exponents) less(y exponents) exponents {
	for i := range x {
		x[i] -= y[i]
	}
	return x
}

// isWithin: is no exponent below 0, or above that of y?
func (x exponents) isWithin(y exponents) bool {
	for i := range x {
		if x[i] < 0 || x[i] > y[i] {
			return false
		}
	}
	return true
}

// term is one of a plain polynomial.
type term struct {
	at exponents
	c  api.Int
}

// pile is a polynomial's terms by their exponents; what comes to 0 is not in it.
type pile map[exponents]api.Int

func (p pile) add(at exponents, c api.Int) {
	sum := zint.Add(p[at], c)
	if zint.Sign(sum) == 0 {
		delete(p, at)
		return
	}
	p[at] = sum
}

// lay adds a polynomial, which may be.
func (p pile) lay(a []api.Term) {
	for _, t := range a {
		p.add(placed(t.E), t.C)
	}
}

func placed(e []int) exponents {
	at := exponents{}
	for i, n := range e {
		at[i] = int16(n)
	}
	return at
}

// terms are those of the pile, as terms go: a map tells them in any order.
func (p pile) terms() []term {
	l := make([]term, 0, len(p))
	for at, c := range p {
		l = append(l, term{at, c})
	}
	slices.SortFunc(l, func(s, t term) int { return compare(t.at, s.at) })
	return l
}

// plain are the terms of a polynomial that may be, plain.
func plain(a []api.Term) []term {
	p := pile{}
	p.lay(a)
	return p.terms()
}

// told is what is answered of plain terms whose exponents may be.
func told(n int, l []term) ([]api.Term, api.Errno) {
	if len(l) > api.MaxTerms {
		return nil, api.ErrLimit
	}
	a := make([]api.Term, len(l))
	for k, t := range l {
		a[k] = api.Term{C: t.c, E: make([]int, n)}
		for i := range n {
			a[k].E[i] = int(t.at[i])
		}
	}
	return a, api.OK
}

// degrees are the greatest exponents of all variables; 0 of nought.
func degrees(l []term) exponents {
	highest := exponents{}
	for _, t := range l {
		for i, e := range t.at {
			highest[i] = max(highest[i], e)
		}
	}
	return highest
}

// content is the greatest common divisor of all coefficients; 0 of nought.
func content(l []term) api.Int {
	shared, one := api.Int{}, zint.Of(1)
	for i := 0; i < len(l) && zint.Cmp(shared, one) != 0; i++ {
		shared = zint.Gcd(shared, l[i].c)
	}
	return shared
}

// over is a polynomial by a number that divides all its coefficients.
func over(l []term, c api.Int) []term {
	z := make([]term, len(l))
	for k, t := range l {
		z[k].at = t.at
		z[k].c, _ = zint.Exact(t.c, c)
	}
	return z
}
