package mgcd

import (
	"slices"

	"cleaver/api"
	"cleaver/zint"
)

// view is a way to look at the sides: each variable as a number times a power of z, its weight.
type view struct {
	weights exponents
	places  [][]int // by side and term, the power of z, the lowest one taken off
	spans   []int   // by side, the highest power
}

func (q *quest) view(weights exponents) *view {
	v := &view{weights: weights}
	for _, side := range q.sides {
		places := make([]int, len(side))
		for k, t := range side {
			places[k] = along(weights, t.at)
		}
		low := slices.Min(places)
		for k := range places {
			places[k] -= low
		}
		v.places = append(v.places, places)
		v.spans = append(v.spans, slices.Max(places))
	}
	return v
}

// alone is z in the place of one variable.
func (q *quest) alone(i int) *view {
	weights := exponents{}
	weights[i] = 1
	return q.view(weights)
}

// along is the power of z of exponents.
func along(weights, at exponents) int {
	sum := 0
	for i, e := range at {
		sum += weights[i] * e
	}
	return sum
}

// reach is how far a polynomial goes along a view; -1, if it is nought.
func reach(v *view, l []term) int {
	low, high := 0, -1
	for k, t := range l {
		place := along(v.weights, t.at)
		if k == 0 {
			low, high = place, place
		}
		low, high = min(low, place), max(high, place)
	}
	return high - low
}

// turn gives all weights the other sign.
func (v *view) turn() {
	for i := range v.weights {
		v.weights[i] = -v.weights[i]
	}
	for s, places := range v.places {
		for k := range places {
			places[k] = v.spans[s] - places[k]
		}
	}
}

// isCorner: do just terms with the same exponents in some variables have that power of z?
func (q *quest) isCorner(v *view, side, place int, seen exponents) bool {
	corner, some := exponents{}, false
	for k, t := range q.sides[side] {
		if v.places[side][k] != place {
			continue
		}
		for i := range t.at {
			t.at[i] *= seen[i]
		}
		if some && t.at != corner {
			return false
		}
		corner, some = t.at, true
	}
	return true
}

// turnToCorner makes the highest power of z, of one side, that of just one term, but for variables that are not in what is sought: then so
// it is in what is sought, as that divides it, and each monic look is what is sought by that one term. false: there is no such side.
func (q *quest) turnToCorner(v *view, seen exponents) bool {
	for side, span := range v.spans {
		for _, place := range []int{span, 0} {
			if !q.isCorner(v, side, place, seen) {
				continue
			}
			if place == 0 {
				v.turn()
			}
			return true
		}
	}
	return false
}

// choose is the view by which what is sought, of such degrees, is found with the least work, of many.
func (q *quest) choose(high exponents) *view {
	seen, variables := exponents{}, []int{}
	for i, d := range high {
		if d > 0 {
			seen[i] = 1
			variables = append(variables, i)
		}
	}
	var best *view
	low := 0
	for k := 1; best == nil || k <= enough(len(variables)); k++ {
		v := q.view(q.weights(variables, k))
		if !q.turnToCorner(v, seen) {
			continue
		}
		if cost := q.cost(v, high); best == nil || cost < low {
			best, low = v, cost
		}
	}
	return best
}

// enough is how many views of so many variables are looked through.
func enough(count int) int {
	if count == 1 {
		return 1
	}
	return weighed(count) + 60
}

// weighed is how many choices of so many weights from -1 to 1 there are, but for all signs.
func weighed(count int) int {
	all := 1
	for range count {
		all *= 3
	}
	return all / 2
}

// weights are the k-th ones of some variables, from 1 on: first those from -1 to 1, then any ones, farther off the longer it takes.
func (q *quest) weights(variables []int, k int) exponents {
	w := exponents{}
	beyond := k - weighed(len(variables))
	for _, i := range variables {
		if beyond <= 0 {
			w[i] = (k+1)%3 - 1
			k = (k - w[i]) / 3
			continue
		}
		reach := 2 + beyond/100
		w[i] = int(q.Next()%uint64(2*reach+1)) - reach
	}
	return w
}

// cost is about how many steps it takes to find what is sought.
func (q *quest) cost(v *view, high exponents) int {
	most, squares, terms, box := api.MaxTerms, 1<<40, 0, 1
	for _, d := range high {
		box = min(box*(d+1), api.MaxTerms)
	}
	for s, places := range v.places {
		counts := make([]int, v.spans[s]+1)
		for _, place := range places {
			counts[place]++
		}
		sum := 0
		for _, c := range counts {
			c = min(c, box)
			sum += c * c
		}
		most, squares, terms = min(most, slices.Max(counts), box), min(squares, sum), terms+len(places)
	}
	looks := 8*most + 6
	return looks*((v.spans[0]+1)*(last(v.spans)+1)+10*terms) + 250*squares
}

// lead is what the number of what is sought at the highest power of z divides.
func (q *quest) lead(v *view) api.Int {
	shared := api.Int{}
	for s, side := range q.sides {
		for k, t := range side {
			if v.places[s][k] == v.spans[s] {
				shared = zint.Gcd(shared, t.c)
			}
		}
	}
	return shared
}
