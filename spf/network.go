package spf

import (
	"cmp"
	"slices"

	"wayfinder/api"
)

// The greatest numbers that an edge may have.
const (
	mostNode = 1<<32 - 1
	mostCost = 65535
	mostLink = 65535
)

// valid says whether an edge may be one of a network.
func valid(e api.Edge) bool {
	return within(0, e.From, mostNode) && within(0, e.To, mostNode) && e.From != e.To &&
		within(1, e.Cost, mostCost) && within(0, e.Link, mostLink)
}

func within(least, n, most int) bool { return least <= n && n <= most }

// port is where an edge begins: a router, and one of its interfaces.
type port struct{ node, link int }

func portOf(e api.Edge) port { return port{e.From, e.Link} }

// pair is two routers: from which, and to which.
type pair [2]int

// network is valid edges, one a port at most.
type network struct {
	edges map[port]api.Edge
	many  map[pair]int // how many edges lead from the one to the other; none: no entry
	// By the router at which they begin, and at which they end: the edges once more, in no order.
	out, into map[int][]api.Edge
}

// newNetwork takes of each port's valid edges the last one.
func newNetwork(edges []api.Edge) network {
	n := network{map[port]api.Edge{}, map[pair]int{}, map[int][]api.Edge{}, map[int][]api.Edge{}}
	for _, e := range edges {
		if valid(e) {
			n.edges[portOf(e)] = e
		}
	}
	for _, e := range n.edges {
		n.enter(e)
	}
	return n
}

// put puts a valid edge at a port that has none.
func (n network) put(e api.Edge) {
	n.edges[portOf(e)] = e
	n.enter(e)
}

// enter counts an edge of the map and lists it by its ends.
func (n network) enter(e api.Edge) {
	n.many[pair{e.From, e.To}]++
	n.out[e.From] = append(n.out[e.From], e)
	n.into[e.To] = append(n.into[e.To], e)
}

// take takes the port's edge away, and answers it if there was one.
func (n network) take(p port) (api.Edge, bool) {
	e, had := n.edges[p]
	if !had {
		return e, false
	}
	delete(n.edges, p)
	ends := pair{e.From, e.To}
	n.many[ends]--
	if n.many[ends] == 0 {
		delete(n.many, ends)
	}
	strike(n.out, e.From, e)
	strike(n.into, e.To, e)
	return e, true
}

// strike takes e out of the list of that router.
func strike(lists map[int][]api.Edge, node int, e api.Edge) {
	left := slices.DeleteFunc(lists[node], func(x api.Edge) bool { return x == e })
	if len(left) == 0 {
		delete(lists, node)
	} else {
		lists[node] = left
	}
}

// stands says whether an edge leads back.
func (n network) stands(e api.Edge) bool { return n.many[pair{e.To, e.From}] > 0 }

// list gives the edges, by From and then Link.
func (n network) list() []api.Edge {
	var out []api.Edge
	for _, e := range n.edges {
		out = append(out, e)
	}
	slices.SortFunc(out, func(a, b api.Edge) int {
		return cmp.Or(cmp.Compare(a.From, b.From), cmp.Compare(a.Link, b.Link))
	})
	return out
}
