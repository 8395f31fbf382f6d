package choose_test

import (
	"fmt"
	"math/rand"
	"slices"
	"testing"

	"wayfinder/api"
	"wayfinder/choose"
)

// The steps of I1, by what they look at.
const (
	stepReach = 1 + iota
	stepPref
	stepPath
	stepOrigin
	stepMed
	stepInner
	stepCost
	stepClusters
	stepAuthor
	stepPeer
	stepFirst
)

func from(o api.Offer) int {
	for _, n := range o.Route.Path {
		return n
	}
	return 0
}

// reason says whether y, at place j, is why a step strikes out x, at place i.
func reason(step int, x, y api.Offer, i, j int) bool {
	switch step {
	case stepReach:
		return x.Cost < 0
	case stepPref:
		return y.Route.Pref > x.Route.Pref
	case stepPath:
		return len(y.Route.Path) < len(x.Route.Path)
	case stepOrigin:
		return y.Route.Origin < x.Route.Origin
	case stepMed:
		return from(y) == from(x) && y.Route.Med < x.Route.Med
	case stepInner:
		return x.Inner && !y.Inner
	case stepCost:
		return y.Cost < x.Cost
	case stepClusters:
		return len(y.Route.Clusters) < len(x.Route.Clusters)
	case stepAuthor:
		return y.Route.Author < x.Route.Author
	case stepPeer:
		return y.Peer < x.Peer
	}
	return j < i
}

// leftBy plays the steps to the last of these numbers, in the plainest way: each offer against each.
func leftBy(l []api.Offer, last int) []int {
	var left []int
	for i := range l {
		left = append(left, i)
	}
	for step := 1; step <= last; step++ {
		var next []int
		for _, i := range left {
			if !slices.ContainsFunc(left, func(j int) bool { return reason(step, l[i], l[j], i, j) }) {
				next = append(next, i)
			}
		}
		left = next
	}
	return left
}

func plainBest(l []api.Offer) int {
	for _, i := range leftBy(l, stepFirst) {
		return i
	}
	return -1
}

// plainOrder asks for the best one again and again, each time without those that were it already.
func plainOrder(l []api.Offer) []int {
	rest := slices.Clone(l)
	var places, out []int
	for i := range l {
		places = append(places, i)
	}
	for best := plainBest(rest); best >= 0; best = plainBest(rest) {
		out = append(out, places[best])
		rest, places = slices.Delete(rest, best, best+1), slices.Delete(places, best, best+1)
	}
	return out
}

func plainEven(l []api.Offer) []int {
	best := plainBest(l)
	if best < 0 {
		return nil
	}
	out := []int{best}
	for _, i := range leftBy(l, stepCost) {
		if i != best && len(out) < 4 {
			out = append(out, i)
		}
	}
	return out
}

func holdsTo(t *testing.T, what string, l []api.Offer, best int, order, even []int) {
	t.Helper()
	if got := choose.Best(l); got != best {
		t.Fatalf("%s: Best %d, must be %d; of %+v", what, got, best, l)
	}
	if got := choose.Order(l); !slices.Equal(got, order) {
		t.Fatalf("%s: Order %v, must be %v; of %+v", what, got, order, l)
	}
	if got := choose.Even(l); !slices.Equal(got, even) {
		t.Fatalf("%s: Even %v, must be %v; of %+v", what, got, even, l)
	}
}

// drawOffers gives so many offers with few numbers each, so that many are equal to the last step; loose says in how many of the numbers they may differ.
func drawOffers(r *rand.Rand, n, loose int) []api.Offer {
	out := make([]api.Offer, n)
	may := func(k, n int) int {
		if k >= loose {
			return 0
		}
		return r.Intn(n)
	}
	fields := r.Perm(9)
	for i := range out {
		o := api.Offer{Inner: may(fields[0], 2) == 1, Cost: may(fields[1], 4) - may(fields[1], 2), Peer: may(fields[2], 3)}
		o.Route = api.Route{Pref: may(fields[3], 2), Origin: may(fields[4], 2), Med: may(fields[5], 4), Author: may(fields[6], 2)}
		for range 1 + may(fields[7], 2) {
			o.Route.Path = append(o.Route.Path, 1+r.Intn(3))
		}
		for range may(fields[8], 3) {
			o.Route.Clusters = append(o.Route.Clusters, r.Intn(3))
		}
		out[i] = o
	}
	return out
}

func TestI1I2AgainstTheSteps(t *testing.T) {
	r := rand.New(rand.NewSource(1))
	for k := range 30000 {
		l := drawOffers(r, r.Intn(11), r.Intn(10))
		holdsTo(t, fmt.Sprint("list ", k), l, plainBest(l), plainOrder(l), plainEven(l))
	}
}

// TestI1I2MedAlone: the numbers that let Order be none that a sort could find.
func TestI1I2MedAlone(t *testing.T) {
	r := rand.New(rand.NewSource(2))
	for k := range 5000 {
		l := make([]api.Offer, r.Intn(14))
		for i := range l {
			l[i] = api.Offer{Peer: r.Intn(20), Cost: r.Intn(20), Inner: r.Intn(3) == 0}
			l[i].Route = api.Route{Path: []int{r.Intn(4)}, Med: r.Intn(5)}
		}
		holdsTo(t, fmt.Sprint("list ", k), l, plainBest(l), plainOrder(l), plainEven(l))
	}
}
