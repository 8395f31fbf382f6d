package choose

import (
	"cmp"
	"slices"

	"wayfinder/api"
)

// step tells which of two offers strikes the other one out: below 0 the first, above 0 the second, 0 neither.
type step func(a, b *api.Offer) int

// steps are gone through in their order.
type steps []step

// stepsToOrigin are those between the one that looks at what can be reached and the one that looks at Med.
func stepsToOrigin() steps {
	return steps{
		func(a, b *api.Offer) int { return cmp.Compare(b.Route.Pref, a.Route.Pref) },
		func(a, b *api.Offer) int { return cmp.Compare(len(a.Route.Path), len(b.Route.Path)) },
		func(a, b *api.Offer) int { return cmp.Compare(a.Route.Origin, b.Route.Origin) },
	}
}

// stepsToCost are those behind the one that looks at Med; what they leave is as good as the best one.
func stepsToCost() steps {
	return steps{
		func(a, b *api.Offer) int { return cmp.Compare(innerLast(a), innerLast(b)) },
		func(a, b *api.Offer) int { return cmp.Compare(a.Cost, b.Cost) },
	}
}

// stepsToPeer are those that decide among offers that are as good; what they leave differs by its place alone.
func stepsToPeer() steps {
	return steps{
		func(a, b *api.Offer) int { return cmp.Compare(len(a.Route.Clusters), len(b.Route.Clusters)) },
		func(a, b *api.Offer) int { return cmp.Compare(a.Route.Author, b.Route.Author) },
		func(a, b *api.Offer) int { return cmp.Compare(a.Peer, b.Peer) },
	}
}

func innerLast(o *api.Offer) int {
	if o.Inner {
		return 1
	}
	return 0
}

// strike gives what all steps leave of the places, in the memory of left.
func (s steps) strike(l []api.Offer, left []int) []int {
	for _, one := range s {
		left = one.strike(l, left)
	}
	return left
}

func (s step) strike(l []api.Offer, left []int) []int {
	if len(left) == 0 {
		return nil
	}
	best := slices.MinFunc(left, func(i, j int) int { return s(&l[i], &l[j]) })
	return slices.DeleteFunc(left, func(i int) bool { return s(&l[best], &l[i]) < 0 })
}

// compare tells which of two offers the first step that does not leave both leaves.
func (s steps) compare(a, b *api.Offer) int {
	for _, one := range s {
		if c := one(a, b); c != 0 {
			return c
		}
	}
	return 0
}

// neighbour is the domain from which a route has come to the own one.
func neighbour(o *api.Offer) int {
	if len(o.Route.Path) == 0 {
		return 0
	}
	return o.Route.Path[0]
}

// strikeByMed is no step like the others: what two neighbours say of Med can't be held against each other.
func strikeByMed(l []api.Offer, left []int) []int {
	least := map[int]int{}
	for _, i := range left {
		from, med := neighbour(&l[i]), l[i].Route.Med
		if known, ok := least[from]; !ok || med < known {
			least[from] = med
		}
	}
	return slices.DeleteFunc(left, func(i int) bool { return l[i].Route.Med > least[neighbour(&l[i])] })
}
