package area_test

import (
	"cmp"
	"math"
	"math/rand"
	"slices"
	"testing"

	"wayfinder/api"
	"wayfinder/area"
	"wayfinder/pfx"
	"wayfinder/spf"
)

func at(a uint32, n int) api.Prefix { return api.Prefix{Addr: a, Len: n} }

func stub(node int, p api.Prefix, cost int) api.Stub {
	return api.Stub{Node: node, Prefix: p, Cost: cost}
}

func ext(node int, p api.Prefix, cost, tag int) api.Ext {
	return api.Ext{Node: node, Prefix: p, Cost: cost, Tag: tag}
}

// wire gives an edge and the one back.
func wire(a, linkA, costA, b, linkB, costB int) []api.Edge {
	return []api.Edge{{From: a, To: b, Cost: costA, Link: linkA}, {From: b, To: a, Cost: costB, Link: linkB}}
}

// model asks prefix by prefix what the chapter says, in its own words.
type model struct {
	b    api.Base
	self int
}

// areas gives the areas that count, and how their routers are reached.
func (m model) areas() ([]api.AreaBase, []map[int]api.Reach) {
	var out []api.AreaBase
	var reached []map[int]api.Reach
	for i, a := range m.b.Areas {
		if m.find(a.Area) != i {
			continue
		}
		dist := map[int]api.Reach{}
		for _, r := range spf.Paths(a.Edges, m.self) {
			dist[r.Node] = r
		}
		out, reached = append(out, a), append(reached, dist)
	}
	return out, reached
}

func (m model) find(number int) int {
	return slices.IndexFunc(m.b.Areas, func(a api.AreaBase) bool { return a.Area == number })
}

func number(n, most int) bool { return n >= 0 && n <= most }

func stubCounts(s api.Stub) bool {
	return pfx.Valid(s.Prefix) && number(s.Node, math.MaxUint32) && number(s.Cost, 65535) &&
		(s.Prefix.Len < 32 || s.Prefix.Addr == uint32(s.Node))
}

func sumCounts(s api.Stub) bool {
	return pfx.Valid(s.Prefix) && number(s.Node, math.MaxUint32) && number(s.Cost, 16777215)
}

func extCounts(x api.Ext) bool {
	return pfx.Valid(x.Prefix) && number(x.Node, math.MaxUint32) && number(x.Tag, math.MaxUint32) && number(x.Cost, 16777215)
}

// prefixes gives all that are spoken of, in Order.
func (m model) prefixes() []api.Prefix {
	var out []api.Prefix
	for _, a := range m.b.Areas {
		for _, s := range slices.Concat(a.Stubs, a.Sums) {
			out = append(out, s.Prefix)
		}
	}
	for _, x := range m.b.Exts {
		out = append(out, x.Prefix)
	}
	slices.SortFunc(out, pfx.Order)
	return slices.Compact(out)
}

// local gives the areas in which self has a stub of p, and the least cost.
func (m model) local(p api.Prefix) (least int, from []int) {
	areas, _ := m.areas()
	least = math.MaxInt
	for _, a := range areas {
		for _, s := range a.Stubs {
			if s.Node == m.self && s.Prefix == p && stubCounts(s) {
				least, from = min(least, s.Cost), append(from, a.Area)
			}
		}
	}
	return least, from
}

// through gives the least cost by way of other routers, over which links, and from which areas, by what is picked of each area.
func (m model) through(p api.Prefix, pick func(a api.AreaBase) []api.Stub) (least int, links, from []int) {
	areas, reached := m.areas()
	least = math.MaxInt
	for _, again := range []bool{false, true} {
		for i, a := range areas {
			for _, s := range pick(a) {
				r, ok := reached[i][s.Node]
				if !ok || s.Node == m.self || s.Prefix != p {
					continue
				}
				least = min(least, r.Dist+s.Cost)
				if again && r.Dist+s.Cost == least {
					links, from = append(links, r.Links...), append(from, a.Area)
				}
			}
		}
	}
	slices.Sort(links)
	return least, slices.Compact(links), from
}

func some(l []api.Stub, counts func(api.Stub) bool) []api.Stub {
	return slices.DeleteFunc(slices.Clone(l), func(s api.Stub) bool { return !counts(s) })
}

// within gives the way to p within the network, and from which areas it comes; Kind 0: there is none.
func (m model) within(p api.Prefix) (api.Way, []int) {
	if cost, from := m.local(p); len(from) > 0 {
		return api.Way{Prefix: p, Kind: api.WayLocal, Cost: cost}, from
	}
	cost, links, from := m.through(p, func(a api.AreaBase) []api.Stub { return some(a.Stubs, stubCounts) })
	if len(from) > 0 {
		return api.Way{Prefix: p, Kind: api.WayIntra, Cost: cost, Links: links}, from
	}
	cost, links, from = m.through(p, func(a api.AreaBase) []api.Stub {
		if a.Area != 0 && m.find(0) >= 0 {
			return nil
		}
		return some(a.Sums, sumCounts)
	})
	if len(from) > 0 {
		return api.Way{Prefix: p, Kind: api.WayInter, Cost: cost, Links: links}, from
	}
	return api.Way{}, nil
}

// outer gives the way to an outer prefix.
func (m model) outer(p api.Prefix) api.Way {
	var out api.Way
	l := slices.Clone(m.b.Exts)
	slices.SortFunc(l, func(a, b api.Ext) int {
		return -cmp.Or(cmp.Compare(a.Cost, b.Cost), cmp.Compare(a.Node, b.Node), cmp.Compare(a.Tag, b.Tag))
	})
	for _, x := range l {
		if x.Prefix != p || !extCounts(x) || x.Node == m.self {
			continue
		}
		if w, _ := m.within(at(uint32(x.Node), 32)); w.Kind == api.WayIntra || w.Kind == api.WayInter {
			out = api.Way{Prefix: p, Kind: api.WayExternal, Cost: x.Cost, Links: w.Links, Tag: x.Tag}
		}
	}
	return out
}

func (m model) ways() []api.Way {
	var out []api.Way
	for _, p := range m.prefixes() {
		w, _ := m.within(p)
		if w.Kind == 0 {
			w = m.outer(p)
		}
		if w.Kind != 0 {
			out = append(out, w)
		}
	}
	return out
}

func (m model) sums() []api.AreaSum {
	areas, _ := m.areas()
	slices.SortFunc(areas, func(a, b api.AreaBase) int { return cmp.Compare(a.Area, b.Area) })
	var out []api.AreaSum
	if m.find(0) < 0 || len(areas) == 1 {
		return out
	}
	for _, a := range areas {
		for _, p := range m.prefixes() {
			w, from := m.within(p)
			told := w.Kind == api.WayInter && a.Area != 0 ||
				(w.Kind == api.WayLocal || w.Kind == api.WayIntra) && !slices.Contains(from, a.Area)
			if told && w.Cost <= 16777215 {
				out = append(out, api.AreaSum{Area: a.Area, Prefix: p, Cost: w.Cost})
			}
		}
	}
	return out
}

func sameWay(a, b api.Way) bool {
	return a.Prefix == b.Prefix && a.Kind == b.Kind && a.Cost == b.Cost && a.Tag == b.Tag && slices.Equal(a.Links, b.Links)
}

func ways(t *testing.T, what string, b api.Base, self int, want ...api.Way) {
	t.Helper()
	if got := area.Ways(b, self); !slices.EqualFunc(got, want, sameWay) {
		t.Fatalf("%s: the ways of %d are\n%v, must be\n%v", what, self, got, want)
	}
}

func sums(t *testing.T, what string, b api.Base, self int, want ...api.AreaSum) {
	t.Helper()
	if got := area.Sums(b, self); !slices.Equal(got, want) {
		t.Fatalf("%s: the sums of %d are\n%v, must be\n%v", what, self, got, want)
	}
}

// few are the prefixes that are drawn; the last ones are wrong.
var few = []api.Prefix{
	at(0, 0), at(0x0a000000, 8), at(0x0a000000, 9), at(0x0a800000, 9), at(0, 32), at(1, 32), at(2, 32), at(3, 32), at(4, 32),
	at(1, 31), at(0, -1), at(0, 33),
}

// draw gives a base with few routers, prefixes and costs, so that much meets; wrong numbers among them.
func draw(r *rand.Rand) api.Base {
	odd := func(n int) int {
		if r.Intn(30) == 0 {
			return []int{-1, 65535, 65536, 16777215, 16777216, 1<<32 - 1, 1 << 32, math.MinInt, math.MaxInt}[r.Intn(9)]
		}
		return r.Intn(n)
	}
	stubs := func(most int) (out []api.Stub) {
		for range r.Intn(most + 1) {
			out = append(out, stub(odd(5), few[r.Intn(len(few))], odd(4)))
		}
		return out
	}
	var b api.Base
	for range r.Intn(4) {
		a := api.AreaBase{Area: r.Intn(4) - r.Intn(2), Stubs: stubs(9), Sums: stubs(9)}
		for range r.Intn(7) {
			a.Edges = append(a.Edges, wire(r.Intn(5), r.Intn(6), 1+odd(3), r.Intn(5), r.Intn(6), 1+odd(3))...)
		}
		b.Areas = append(b.Areas, a)
	}
	for range r.Intn(12) {
		b.Exts = append(b.Exts, ext(odd(5), few[r.Intn(len(few))], odd(3), odd(3)))
	}
	return b
}
