package zfac

import "iter"

// choices tells all choices of so many of some words, by their places, rising, whose sum is no farther from 0 than that,
// gone round at 2^64. The places are told in the same list each time.
func choices(words []uint64, size int, far uint64) iter.Seq[[]int] {
	return func(yield func(places []int) bool) {
		places := make([]int, size)
		var choose func(turn, from int, sum uint64) bool
		// choose goes on from those chosen ahead of a turn, whose words have that sum. False: no more are asked for.
		choose = func(turn, from int, sum uint64) bool {
			for place := from; place <= len(words)-(size-turn); place++ {
				places[turn] = place
				next, asked := sum+words[place], true
				switch {
				case turn < size-1:
					asked = choose(turn+1, place+1, next)
				case min(next, -next) <= far:
					asked = yield(places)
				}
				if !asked {
					return false
				}
			}
			return true
		}
		choose(0, 0, 0)
	}
}

// areMore: are there more choices of so many of n things than that? So many are at most half of the n.
func areMore(n, size, most int) bool {
	ways := 1
	for chosen := range size { // there are more and more, so that none is forgotten
		ways = ways * (n - chosen) / (chosen + 1)
		if ways > most {
			return true
		}
	}
	return false
}
