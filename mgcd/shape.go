package mgcd

// shape is which terms are in what is sought.
type shape struct {
	places [][]exponents // by the power of z, all but the highest one
	top    exponents     // of the only term there
	most   int           // how many there are at one power, at the most
}

// shape is what a sight tells of the terms, none of which has greater exponents than high: where a variable is taken that many times, a
// term is by as many times its exponent. false: what was seen is not of that kind. All exponents are first told as the top one's and more,
// or less.
func (q *quest) shape(v *view, s *sight, high exponents) (*shape, bool) {
	beyond, left := make([][]exponents, len(s.ratios)), leftOut(v, high)
	for k, ratios := range s.ratios {
		beyond[k] = make([]exponents, len(ratios))
	}
	for _, group := range groups(left, high) {
		if s.most > 0 && !q.tell(v, s, group, high, beyond) {
			return nil, false
		}
	}
	low := exponents{}
	for k, all := range beyond {
		for i := range all {
			rest := k - len(beyond) - along(v.weights, all[i])
			all[i][left] = rest / v.weights[left]
			if rest%v.weights[left] != 0 {
				return nil, false
			}
			low = low.least(all[i])
		}
	}
	top := exponents{}.less(low)
	may := top.isWithin(high) // what is known of the degrees may be wrong
	for _, all := range beyond {
		for i := range all {
			all[i] = all[i].less(low)
			may = may && all[i].isWithin(high)
		}
	}
	return &shape{beyond, top, s.most}, may
}

// leftOut is the variable whose exponents the powers of z tell, if those of all others are known: the one of the highest degree.
func leftOut(v *view, high exponents) int {
	left := -1
	for i, d := range high {
		if v.weights[i] != 0 && (left < 0 || d > high[left]) {
			left = i
		}
	}
	return left
}

// groups are all other variables; the exponents of those of one group are told at once.
func groups(left int, high exponents) [][]int {
	var all [][]int
	size := 0
	for i, d := range high {
		if d == 0 || i == left {
			continue
		}
		if size *= 2*d + 1; size == 0 || size > 4096 {
			all, size = append(all, nil), 2*d+1
		}
		all[len(all)-1] = append(last(all), i)
	}
	return all
}

// tell tells the exponents of some variables, all by one number x: the first variable is taken x times, the next one by the power of x that
// is one more than the first one's exponents may make, and so on.
func (q *quest) tell(v *view, s *sight, group []int, high exponents, beyond [][]exponents) bool {
	x, start, none, size := q.point(s.Modulus)[0], s.start, 0, 1
	for _, i := range group {
		start[i] = s.Times(start[i], s.Power(x, uint64(size)))
		none += size * high[i]
		size *= 2*high[i] + 1
	}
	numbers := map[uint64]int{}
	power := s.Power(s.Inverse(x), uint64(none))
	for k := range size {
		numbers[power] = k
		power = s.Times(power, x)
	}
	looks := q.course(s.basis, v, start, s.step).looks(s.most, len(s.ratios)+1)
	if looks == nil || len(numbers) < size {
		return false
	}
	for k, moved := range s.shares(looks) {
		for i, share := range moved {
			number, ok := numbers[s.Times(share, s.Inverse(s.all[k][i]))]
			if !ok {
				return false
			}
			for _, j := range group {
				beyond[k][i][j] = number%(2*high[j]+1) - high[j]
				number /= 2*high[j] + 1
			}
		}
	}
	return true
}

// sightOf is another sight of a shape, by a new prime; false: it does not fit.
func (q *quest) sightOf(sh *shape, v *view, high exponents) (*sight, bool) {
	b := q.basis()
	s := &sight{basis: b, start: q.point(b.Modulus), step: q.point(b.Modulus), most: sh.most}
	looks := q.course(b, v, s.start, s.step).looks(s.most+1, len(sh.places)+1)
	if looks == nil {
		return nil, false
	}
	on := powersOf(b.Modulus, s.step, high)
	top := b.Inverse(on.worth(sh.top))
	for _, all := range sh.places {
		ratios := make([]uint64, len(all))
		for i, at := range all {
			ratios[i] = b.Times(on.worth(at), top)
		}
		s.ratios = append(s.ratios, ratios)
	}
	s.all = s.shares(looks)
	return s, s.fits(looks)
}

// fits: do the numbers of all terms make one look more than they were found by?
func (s *sight) fits(looks []dense) bool {
	for k, ratios := range s.ratios {
		sum := uint64(0)
		for i, r := range ratios {
			sum = s.Plus(sum, s.Times(s.all[k][i], s.Power(r, uint64(len(ratios)))))
		}
		if sum != looks[len(ratios)][k] {
			return false
		}
	}
	return true
}

// coefficients are those of all terms of a shape, as seen; lead is the top one's, which comes last.
func (s *sight) coefficients(sh *shape, high exponents, lead uint64) []uint64 {
	back := s.start
	for i, x := range back {
		back[i] = s.Inverse(x)
	}
	over := powersOf(s.Modulus, back, high)
	top := s.Times(lead, powersOf(s.Modulus, s.start, high).worth(sh.top))
	var all []uint64
	for k, places := range sh.places {
		for i, at := range places {
			all = append(all, s.Times(s.all[k][i], s.Times(top, over.worth(at))))
		}
	}
	return append(all, lead)
}
