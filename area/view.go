package area

import (
	"cmp"
	"slices"

	"wayfinder/api"
	"wayfinder/rising"
	"wayfinder/spf"
)

// fact is what is known of a prefix: the way to it, over which links that goes, and from which areas it comes.
type fact struct {
	api.Way
	over rising.Set
	from []int
}

// join takes in that the way goes over these links too, and comes from this area.
func (f *fact) join(area, cost int, links []int) {
	f.Cost = min(f.Cost, cost)
	f.over.Add(links...)
	f.from = append(f.from, area)
}

// way is the whole way.
func (f *fact) way() api.Way {
	w := f.Way
	w.Links = f.over.List()
	return w
}

// isToldTo says whether a router that is in several areas, area 0 among them, tells this area of the prefix.
func (f *fact) isToldTo(area int) bool {
	switch {
	case f.Cost > api.MaxCost:
		return false
	case f.Kind == api.WayInter:
		return area != backbone
	}
	return !slices.Contains(f.from, area)
}

// view is what a router knows of the prefixes within the network.
type view struct {
	self  int
	facts map[api.Prefix]*fact
}

// newView takes in what is known of areas, each of which is there once.
func newView(areas []api.AreaBase, self int) view {
	v := view{self: self, facts: map[api.Prefix]*fact{}}
	atBackbone := in(backbone, areas)
	for _, a := range areas {
		reached := reaches(a.Edges, self)
		v.learnStubs(a, reached)
		if !atBackbone || a.Area == backbone {
			v.learnSums(a, reached)
		}
	}
	return v
}

// reaches gives how an area's routers are reached, by their numbers.
func reaches(edges []api.Edge, self int) map[int]api.Reach {
	out := map[int]api.Reach{}
	for _, r := range spf.Paths(edges, self) {
		out[r.Node] = r
	}
	return out
}

func (v view) learnStubs(a api.AreaBase, reached map[int]api.Reach) {
	for _, s := range a.Stubs {
		to, ok := reached[s.Node]
		switch {
		case !ok || !stubCounts(s):
		case s.Node == v.self:
			v.learn(a.Area, s, api.WayLocal, to)
		default:
			v.learn(a.Area, s, api.WayIntra, to)
		}
	}
}

func (v view) learnSums(a api.AreaBase, reached map[int]api.Reach) {
	for _, s := range a.Sums {
		if to, ok := reached[s.Node]; ok && s.Node != v.self && sumCounts(s) {
			v.learn(a.Area, s, api.WayInter, to)
		}
	}
}

// learn takes in a way of that kind, to a router that has the prefix, if none that is known goes ahead of it.
func (v view) learn(area int, s api.Stub, kind int, to api.Reach) {
	w := api.Way{Prefix: s.Prefix, Kind: kind, Cost: to.Dist + s.Cost}
	f := v.facts[w.Prefix]
	if f == nil || rank(w, f.Way) < 0 {
		f = &fact{Way: w}
		v.facts[w.Prefix] = f
	}
	if rank(w, f.Way) == 0 {
		f.join(area, w.Cost, to.Links)
	}
}

// rank: which of two ways to a prefix goes ahead. All local ones count as one, since a local way comes from each area in which self has the prefix, whatever it costs there.
func rank(a, b api.Way) int {
	if a.Kind == api.WayLocal && b.Kind == api.WayLocal {
		return 0
	}
	return cmp.Or(cmp.Compare(a.Kind, b.Kind), cmp.Compare(a.Cost, b.Cost))
}

// outside gives the ways to the outer prefixes to which none leads within the network.
func (v view) outside(exts []api.Ext) []api.Way {
	best := map[api.Prefix]api.Ext{}
	for _, x := range exts {
		if !extCounts(x) || x.Node == v.self || v.facts[x.Prefix] != nil || v.facts[own(x.Node)] == nil {
			continue
		}
		if b, ok := best[x.Prefix]; !ok || order(x, b) < 0 {
			best[x.Prefix] = x
		}
	}
	var out []api.Way
	for p, x := range best {
		// The way to its own prefix is no local one: of an own prefix only that router's stub counts.
		links := v.facts[own(x.Node)].over.List()
		out = append(out, api.Way{Prefix: p, Kind: api.WayExternal, Cost: x.Cost, Links: links, Tag: x.Tag})
	}
	return out
}

// order: which of two outer prefixes is taken.
func order(a, b api.Ext) int {
	return cmp.Or(cmp.Compare(a.Cost, b.Cost), cmp.Compare(a.Node, b.Node), cmp.Compare(a.Tag, b.Tag))
}
