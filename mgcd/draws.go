package mgcd

import (
	"cleaver/modulus"
	"cleaver/zint"
)

// draws are what is drawn. It hangs on all of what is handed in, by more numbers than can be made to be what one wants: so no polynomials
// can be thought out that look wrong by just what is drawn for them.
type draws struct {
	modulus.Lot
	traces [4]uint64
	count  uint64
}

func newDraws(n int, sides ...[]term) *draws {
	d := &draws{}
	for k := range d.traces {
		d.Last = uint64(k)<<8 | uint64(n)
		for _, side := range sides {
			d.follow(side)
		}
		d.traces[k] = d.Next()
	}
	return d
}

// follow lets what is drawn next hang on a polynomial.
func (d *draws) follow(side []term) {
	for _, t := range side {
		word := uint64(zint.Sign(t.c) + 1)
		for _, e := range t.at {
			word = word<<10 | uint64(e)
		}
		d.Last = d.Next() ^ word
		for _, limb := range t.c.Abs {
			d.Last = d.Next() ^ limb
		}
	}
}

// anew draws a prime, and lets all that is drawn behind it hang on all traces.
func (d *draws) anew() *modulus.Modulus {
	d.count++
	d.Last = d.count
	for _, trace := range d.traces {
		d.Last = d.Next() ^ trace
	}
	return d.Prime()
}
