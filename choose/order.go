package choose

import (
	"cmp"
	"slices"

	"wayfinder/api"
)

// Order is the places of all that can be reached, the best first.
func Order(l []api.Offer) []int {
	f := field{l, stepsToOrigin(), slices.Concat(stepsToCost(), stepsToPeer())}
	places := reached(l)
	slices.SortFunc(places, func(i, j int) int {
		return cmp.Or(f.byEarly(i, j), f.byNeighbour(i, j), f.byMed(i, j), f.byLate(i, j))
	})
	// Offers of one neighbour are chosen in this order, one behind the other: Med lets none but the first of them through.
	// So one that is better by the late steps than some ahead of it has to wait for these, and is chosen at once behind them.
	last := f.lastAhead(places)
	slices.SortStableFunc(places, func(i, j int) int {
		return cmp.Or(f.byEarly(i, j), f.byLate(last[i], last[j]))
	})
	return places
}

// field holds offers against each other, by their places: by the steps ahead of the one that looks at Med, by what that looks at, and by those behind it.
type field struct {
	offers      []api.Offer
	early, late steps
}

func (f field) byEarly(i, j int) int { return f.early.compare(&f.offers[i], &f.offers[j]) }

func (f field) byNeighbour(i, j int) int {
	return cmp.Compare(neighbour(&f.offers[i]), neighbour(&f.offers[j]))
}

func (f field) byMed(i, j int) int {
	return cmp.Compare(f.offers[i].Route.Med, f.offers[j].Route.Med)
}

// byLate ends with the places themselves: it never leaves both.
func (f field) byLate(i, j int) int {
	return cmp.Or(f.late.compare(&f.offers[i], &f.offers[j]), cmp.Compare(i, j))
}

// lastAhead gives, of each place, which one of its neighbour's stands last by the late steps, of itself and those ahead of it.
func (f field) lastAhead(places []int) []int {
	last := make([]int, len(f.offers))
	for at, i := range places {
		last[i] = i
		if at == 0 {
			continue
		}
		ahead := places[at-1]
		if f.byEarly(ahead, i) == 0 && f.byNeighbour(ahead, i) == 0 && f.byLate(last[ahead], i) > 0 {
			last[i] = last[ahead]
		}
	}
	return last
}
