package spf_test

import (
	"maps"
	"math/rand"
	"slices"
	"testing"

	"wayfinder/api"
	"wayfinder/spf"
)

func edge(from, to, cost, link int) api.Edge {
	return api.Edge{From: from, To: to, Cost: cost, Link: link}
}

// both gives an edge and the one back, at one cost.
func both(a, linkA, b, linkB, cost int) []api.Edge {
	return []api.Edge{edge(a, b, cost, linkA), edge(b, a, cost, linkB)}
}

// model is a network in the plainest way: by From and Link.
type model map[[2]int]api.Edge

func modelOf(edges []api.Edge) model {
	m := model{}
	for _, e := range edges {
		m.set(e)
	}
	return m
}

func right(e api.Edge) bool {
	return e.From >= 0 && e.From <= 0xffffffff && e.To >= 0 && e.To <= 0xffffffff && e.From != e.To &&
		e.Cost >= 1 && e.Cost <= 65535 && e.Link >= 0 && e.Link <= 65535
}

func (m model) set(e api.Edge) bool {
	if right(e) {
		m[[2]int{e.From, e.Link}] = e
	}
	return right(e)
}

func (m model) edges() []api.Edge {
	var out []api.Edge
	for _, at := range slices.SortedFunc(maps.Keys(m), func(a, b [2]int) int { return slices.Compare(a[:], b[:]) }) {
		out = append(out, m[at])
	}
	return out
}

// standing gives the edges that have one back.
func (m model) standing() []api.Edge {
	var out []api.Edge
	for _, e := range m.edges() {
		back := func(x api.Edge) bool { return x.From == e.To && x.To == e.From }
		if slices.ContainsFunc(m.edges(), back) {
			out = append(out, e)
		}
	}
	return out
}

// walked goes along every path that comes to no router twice: shorter ones than these there are none.
func (m model) walked(root int) []api.Reach {
	found := map[int]api.Reach{}
	on := map[int]int{}
	stand := m.standing()
	var walk func(at, dist int, first []int)
	walk = func(at, dist int, first []int) {
		r, ok := found[at]
		if !ok || dist < r.Dist {
			r = api.Reach{Node: at, Dist: dist}
		}
		if dist == r.Dist {
			r.Links = slices.Concat(r.Links, first)
		}
		found[at] = r
		on[at]++
		for _, e := range stand {
			if e.From != at || on[e.To] > 0 {
				continue
			}
			if at == root {
				walk(e.To, dist+e.Cost, []int{e.Link})
			} else {
				walk(e.To, dist+e.Cost, first)
			}
		}
		on[at]--
	}
	walk(root, 0, nil)
	return listed(found)
}

// relaxed goes over all edges until nothing is shorter, then until no link is new.
func (m model) relaxed(root int) []api.Reach {
	found := map[int]api.Reach{root: {Node: root}}
	stand := m.standing()
	for again := true; again; {
		again = false
		for _, e := range stand {
			from, ok := found[e.From]
			if !ok {
				continue
			}
			to, had := found[e.To]
			if dist := from.Dist + e.Cost; !had || dist < to.Dist {
				found[e.To] = api.Reach{Node: e.To, Dist: dist}
				again = true
			}
		}
	}
	for again := true; again; {
		again = false
		for _, e := range stand {
			from, ok := found[e.From]
			to := found[e.To]
			if !ok || from.Dist+e.Cost != to.Dist {
				continue
			}
			links := from.Links
			if e.From == root {
				links = []int{e.Link}
			}
			for _, l := range links {
				if !slices.Contains(to.Links, l) {
					to.Links = append(slices.Clone(to.Links), l)
					again = true
				}
			}
			found[e.To] = to
		}
	}
	return listed(found)
}

func listed(found map[int]api.Reach) []api.Reach {
	var out []api.Reach
	for _, n := range slices.Sorted(maps.Keys(found)) {
		r := found[n]
		slices.Sort(r.Links)
		r.Links = slices.Compact(r.Links)
		out = append(out, r)
	}
	return out
}

func sameReach(a, b api.Reach) bool {
	return a.Node == b.Node && a.Dist == b.Dist && slices.Equal(a.Links, b.Links)
}

// differing gives the routers of which two answers tell otherwise, rising.
func differing(a, b []api.Reach) []int {
	count := map[int]int{}
	for _, r := range a {
		count[r.Node]++
		if slices.ContainsFunc(b, func(x api.Reach) bool { return sameReach(x, r) }) {
			count[r.Node] += 2
		}
	}
	for _, r := range b {
		count[r.Node] += 0
	}
	maps.DeleteFunc(count, func(_, n int) bool { return n > 1 })
	return slices.Sorted(maps.Keys(count))
}

func paths(t *testing.T, what string, got, want []api.Reach) {
	t.Helper()
	if !slices.EqualFunc(got, want, sameReach) {
		t.Fatalf("%s: %v, must be %v", what, got, want)
	}
}

// draw gives an edge among few routers and links, now and then a wrong one.
func draw(r *rand.Rand, nodes, costs, links int) api.Edge {
	if r.Intn(12) == 0 {
		return wrong[r.Intn(len(wrong))]
	}
	return edge(r.Intn(nodes), r.Intn(nodes), 1+r.Intn(costs), r.Intn(links))
}

// holds asks a tree all it can be asked.
func (m model) holds(t *testing.T, tree *spf.Tree, root int) {
	t.Helper()
	want := m.relaxed(root)
	paths(t, "D4 Reaches", tree.Reaches(), want)
	if got := tree.Edges(); !slices.Equal(got, m.edges()) {
		t.Fatalf("D4 Edges: %v, must be %v", got, m.edges())
	}
	at := 0
	for n := -2; n < 20; n++ {
		r, ok := tree.At(n)
		if at < len(want) && want[at].Node == n {
			if !ok || !sameReach(r, want[at]) {
				t.Fatalf("D4 At %d: %v %v, must be %v", n, r, ok, want[at])
			}
			at++
		} else if ok || r.Node != 0 || r.Dist != 0 || r.Links != nil {
			t.Fatalf("D4 At %d: %v %v, and it is not reached", n, r, ok)
		}
	}
}
