package choose_test

import (
	"fmt"
	"math"
	"math/rand"
	"slices"
	"testing"

	"wayfinder/api"
	"wayfinder/choose"
)

// plainOffer is one that can be made better for each step.
func plainOffer() api.Offer {
	return api.Offer{Peer: 5, Inner: true, Cost: 5, Route: api.Route{Path: []int{7, 8}, Origin: 1, Pref: 5, Med: 5, Clusters: []int{1}, Author: 5}}
}

// improve makes an offer better for one step.
func improve(o *api.Offer, step int) {
	switch step {
	case stepPref:
		o.Route.Pref++
	case stepPath:
		o.Route.Path = o.Route.Path[:1]
	case stepOrigin:
		o.Route.Origin--
	case stepMed:
		o.Route.Med--
	case stepInner:
		o.Inner = false
	case stepCost:
		o.Cost--
	case stepClusters:
		o.Route.Clusters = nil
	case stepAuthor:
		o.Route.Author--
	case stepPeer:
		o.Peer--
	}
}

func offer(steps ...int) api.Offer {
	o := plainOffer()
	for _, step := range steps {
		improve(&o, step)
	}
	return o
}

// with gives a plain offer that was changed.
func with(change func(o *api.Offer)) api.Offer {
	o := plainOffer()
	change(&o)
	return o
}

// pair asks for two offers of which the first is the better one, in both orders.
func pair(t *testing.T, what string, better, worse api.Offer, even bool) {
	t.Helper()
	first, second := []int{0}, []int{1}
	if even {
		first, second = []int{0, 1}, []int{1, 0}
	}
	holdsTo(t, what, []api.Offer{better, worse}, 0, []int{0, 1}, first)
	holdsTo(t, what+", turned", []api.Offer{worse, better}, 1, []int{1, 0}, second)
}

// TestI1EachStep: what is better at one step is the best, though the other one is better at all that follow.
func TestI1EachStep(t *testing.T) {
	for step := stepPref; step <= stepPeer; step++ {
		var behind []int
		for k := step + 1; k <= stepPeer; k++ {
			behind = append(behind, k)
		}
		pair(t, fmt.Sprint("step ", step), offer(step), offer(behind...), step > stepCost)
		pair(t, fmt.Sprint("step ", step, " alone"), offer(step), offer(), step > stepCost)
	}
}

func TestI1Reach(t *testing.T) {
	all := offer(stepPref, stepPath, stepOrigin, stepMed, stepInner, stepClusters, stepAuthor, stepPeer)
	for _, cost := range []int{-1, -2, math.MinInt} {
		all.Cost = cost
		holdsTo(t, "alone", []api.Offer{all}, -1, nil, nil)
		holdsTo(t, "ahead", []api.Offer{all, offer()}, 1, []int{1}, []int{1})
		holdsTo(t, "behind", []api.Offer{offer(), all, all}, 0, []int{0}, []int{0})
	}
	all.Cost = 0
	holdsTo(t, "at cost 0", []api.Offer{offer(), all}, 1, []int{1, 0}, []int{1})
}

// TestI1Ends: numbers that are as far from each other as can be.
func TestI1Ends(t *testing.T) {
	least, most := math.MinInt, math.MaxInt
	for _, n := range [][2]int{{least, most}, {least, 0}, {-1, most}, {least, least + 1}, {most - 1, most}, {-2, 1}} {
		what := fmt.Sprint(n)
		low, high := n[0], n[1]
		pair(t, "Pref "+what, with(func(o *api.Offer) { o.Route.Pref = high }), with(func(o *api.Offer) { o.Route.Pref = low }), false)
		pair(t, "Origin "+what, with(func(o *api.Offer) { o.Route.Origin = low }), with(func(o *api.Offer) { o.Route.Origin = high }), false)
		pair(t, "Med "+what, with(func(o *api.Offer) { o.Route.Med = low }), with(func(o *api.Offer) { o.Route.Med = high }), false)
		pair(t, "Author "+what, with(func(o *api.Offer) { o.Route.Author = low }), with(func(o *api.Offer) { o.Route.Author = high }), true)
		pair(t, "Peer "+what, with(func(o *api.Offer) { o.Peer = low }), with(func(o *api.Offer) { o.Peer = high }), true)
	}
	pair(t, "Cost", with(func(o *api.Offer) { o.Cost = 0 }), with(func(o *api.Offer) { o.Cost = most }), false)
	pair(t, "Cost at the end", with(func(o *api.Offer) { o.Cost = most - 1 }), with(func(o *api.Offer) { o.Cost = most }), false)
}

func med(med, cost int, path ...int) api.Offer {
	return with(func(o *api.Offer) { o.Route.Path, o.Route.Med, o.Cost = path, med, cost })
}

func TestI1Neighbour(t *testing.T) {
	pair(t, "one neighbour", med(4, 9, 7, 1), med(5, 0, 7, 2), false)
	pair(t, "two neighbours", med(5, 0, 1, 7), med(4, 9, 2, 7), false)
	pair(t, "no path", med(4, 9), med(5, 0), false)
	pair(t, "neighbour 0", med(4, 9, 0), med(5, 0, 0), false)
	pair(t, "a neighbour below 0", med(4, 9, -7), med(5, 0, -7), false)
	pair(t, "neighbours that differ by their sign", med(5, 0, -7), med(4, 9, 7), false)
	// The neighbour is who told the route, not who had it first.
	pair(t, "the last ones alike", med(9, 0, 1, 3, 7), med(0, 9, 2, 3, 7), false)
}

// TestI1Ring: each of three is better than another one of them; Med is asked of all that are left.
func TestI1Ring(t *testing.T) {
	x, y, z := med(5, 1, 7), med(0, 2, 8), med(4, 3, 7)
	pair(t, "x and y", x, y, false)
	pair(t, "y and z", y, z, false)
	pair(t, "z and x", z, x, false)
	holdsTo(t, "all three", []api.Offer{x, y, z}, 1, []int{1, 2, 0}, []int{1})
	holdsTo(t, "all three, turned", []api.Offer{z, y, x}, 1, []int{1, 0, 2}, []int{1})
	// What a step ahead has struck out has no say in Med.
	z.Route.Origin++
	holdsTo(t, "z is struck out", []api.Offer{x, y, z}, 0, []int{0, 1, 2}, []int{0})
	// What is struck out for its Med strikes out those with a greater one all the same.
	holdsTo(t, "three of one neighbour", []api.Offer{med(6, 0, 7), med(5, 9, 7), med(4, 9, 7), med(9, 9, 8)}, 2, []int{2, 1, 0, 3}, []int{2, 3})
}

func TestI2None(t *testing.T) {
	holdsTo(t, "nil", nil, -1, nil, nil)
	holdsTo(t, "an empty list", []api.Offer{}, -1, nil, nil)
	holdsTo(t, "the zero offer", make([]api.Offer, 1), 0, []int{0}, []int{0})
}

func TestI2Even(t *testing.T) {
	var l []api.Offer
	for i := range 7 {
		l = append(l, with(func(o *api.Offer) { o.Peer, o.Route.Clusters = 7-i, make([]int, 7-i) }))
		want := []int{i, 0, 1, 2}
		if i < 3 {
			want = append([]int{i}, []int{0, 1}[:i]...)
		}
		if got := choose.Even(l); !slices.Equal(got, want) {
			t.Errorf("%d offers: %v, must be %v", i+1, got, want)
		}
	}
	// Places, not how many are passed over: the first are struck out.
	l = append([]api.Offer{med(9, 5, 7, 8), med(5, 6, 7, 8), med(5, -1, 7, 8)}, l[:2]...)
	if got := choose.Even(l); !slices.Equal(got, []int{4, 3}) {
		t.Errorf("behind others: %v", got)
	}
	same := slices.Repeat([]api.Offer{plainOffer()}, 6)
	holdsTo(t, "all the same", same, 0, []int{0, 1, 2, 3, 4, 5}, []int{0, 1, 2, 3})
}

// without gives a list in which some places can't be reached any more.
func without(l []api.Offer, places []int) []api.Offer {
	out := slices.Clone(l)
	for _, i := range places {
		out[i].Cost = -1
	}
	return out
}

// TestI2Long: a list that is too long to be gone through once for each of its offers.
func TestI2Long(t *testing.T) {
	r := rand.New(rand.NewSource(3))
	const n = 200000
	l := make([]api.Offer, n)
	for i := range l {
		l[i] = api.Offer{Peer: r.Intn(1000), Cost: r.Intn(50) - 1}
		l[i].Route = api.Route{Path: []int{r.Intn(300)}, Med: r.Intn(9), Author: r.Intn(9)}
	}
	order := choose.Order(l)
	for _, at := range []int{0, 1, 2, 3, 1000, 77777, len(order) - 2, len(order) - 1, len(order)} {
		want := -1
		if at < len(order) {
			want = order[at]
		}
		if got := choose.Best(without(l, order[:at])); got != want {
			t.Fatalf("Order at %d: %d, must be %d", at, want, got)
		}
	}
	slices.Sort(order)
	var all []int
	for i := range l {
		if l[i].Cost >= 0 {
			all = append(all, i)
		}
	}
	if !slices.Equal(order, all) {
		t.Errorf("Order has %d places, must have the %d that can be reached", len(order), len(all))
	}
}

// TestP2OffersAreOnlyRead: the lists in them and the spare room behind them, too; and what is answered is the caller's.
func TestP2OffersAreOnlyRead(t *testing.T) {
	r := rand.New(rand.NewSource(4))
	for range 2000 {
		l := drawOffers(r, 12, 9)
		for i := range l {
			l[i].Route.Path = append(l[i].Route.Path, 77)[:len(l[i].Route.Path)]
			l[i].Route.Clusters = append(l[i].Route.Clusters, 77)[:len(l[i].Route.Clusters)]
		}
		show := func() string {
			out := fmt.Sprint(l[:cap(l)])
			for _, o := range l {
				out += fmt.Sprint(o.Route.Path[:cap(o.Route.Path)], o.Route.Clusters[:cap(o.Route.Clusters)])
			}
			return out
		}
		own := show()
		part := l[:r.Intn(10)]
		best, order, even := choose.Best(part), choose.Order(part), choose.Even(part)
		kept := fmt.Sprint(best, order, even)
		if again := fmt.Sprint(choose.Best(part), choose.Order(part), choose.Even(part)); again != kept {
			t.Fatalf("%s, and then %s", kept, again)
		}
		clear(order[:cap(order)])
		clear(even[:cap(even)])
		if again := fmt.Sprint(choose.Best(part), choose.Order(part), choose.Even(part)); again != kept {
			t.Fatalf("%s, and when the answers were written over %s", kept, again)
		}
		if show() != own {
			t.Fatalf("%s has become %s", own, show())
		}
	}
}
