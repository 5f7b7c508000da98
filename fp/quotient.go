package fp

import "cleaver/api"

// Inv is the residue whose product with another one is 1.
func Inv(a, p int) (int, api.Errno) {
	if e := Check(p); e != api.OK {
		return 0, e
	}
	rest := Red(a, p)
	if rest == 0 {
		return 0, api.ErrZero
	}
	return inverse(rest, p), api.OK
}

// Div is the quotient.
func Div(a, b, p int) (int, api.Errno) {
	over, e := Inv(b, p)
	if e != api.OK {
		return 0, e
	}
	return product(Red(a, p), over, p), api.OK
}

// row is a number, and the plain residue whose product with the residue that is to be inverted has the number's rest.
type row struct{ number, factor int }

// inverse is that of a plain residue which is not 0. The two numbers never have a common divisor, so they are alike only
// when both are 1, and none gets 0. The lower one stays odd: a p that is even is 2, by which a is 1 from the start.
func inverse(a, p int) int {
	upper, lower := row{a, 1}, row{p, 0}
search:
	for {
		for upper.number%2 == 0 {
			upper = half(upper, p)
		}
		switch {
		case upper.number == 1:
			break search
		case upper.number < lower.number:
			upper, lower = lower, upper
		}
		upper = row{upper.number - lower.number, lifted(upper.factor-lower.factor, p)}
	}
	return upper.factor
}

// half is a row of an even number, halved; p is odd.
func half(r row, p int) row {
	if r.factor%2 != 0 {
		r.factor += p
	}
	return row{r.number / 2, r.factor / 2}
}
