package lsr

import (
	"slices"

	"wayfinder/api"
	"wayfinder/lsa"
)

// announcements stand in order of their keys, each key once.
type announcements []api.Lsa

// at gives the announcement with the key of x.
func (l announcements) at(x api.Lsa) (api.Lsa, bool) {
	i, found := slices.BinarySearchFunc(l, x, lsa.Order)
	if !found {
		return api.Lsa{}, false
	}
	return l[i], true
}

// put lets x stand in the place of what has its key.
func (l *announcements) put(x api.Lsa) {
	i, found := slices.BinarySearchFunc(*l, x, lsa.Order)
	if !found {
		*l = slices.Insert(*l, i, x)
	}
	(*l)[i] = x
}

// ended says whether an announcement no longer tells anything: it is only kept until all know that.
func ended(x api.Lsa) bool { return x.Age >= api.MaxAge }

// keep takes an announcement in and owes it to all neighbours.
func (r *Router) keep(x api.Lsa) {
	r.kept.put(x)
	r.owe(x)
}

func (r *Router) owe(x api.Lsa) {
	for _, p := range r.ports {
		if p.twoWay && p.hasInScope(x) {
			p.owed[keyOf(x)] = r.now
		}
	}
}

func (r *Router) growOlder() {
	for i := range r.kept {
		x := &r.kept[i]
		if ended(*x) {
			continue
		}
		x.Age++
		if ended(*x) {
			r.owe(*x)
		}
	}
}

// forget drops what has ended and is known to have ended by all to whom it was told.
func (r *Router) forget() {
	r.kept = slices.DeleteFunc(r.kept, func(x api.Lsa) bool { return ended(x) && !r.owesAnybody(x) })
}

func (r *Router) owesAnybody(x api.Lsa) bool {
	return slices.ContainsFunc(r.ports, func(p *port) bool { return p.owes(x) })
}

// Base answers what the router knows.
func (r *Router) Base() api.Base {
	var b api.Base
	for _, n := range r.areas {
		b.Areas = append(b.Areas, api.AreaBase{Area: n})
	}
	for _, x := range r.kept {
		if ended(x) {
			continue
		}
		if x.Kind == api.LsaExternal {
			b.Exts = append(b.Exts, api.Ext{Node: x.Origin, Prefix: x.Prefix, Cost: x.Cost, Tag: x.Tag})
			continue
		}
		// What is kept came over a port of its area, or is the router's own: the area is one of the router's.
		i, _ := slices.BinarySearch(r.areas, x.Area)
		addTo(&b.Areas[i], x)
	}
	return b
}

func addTo(a *api.AreaBase, x api.Lsa) {
	if x.Kind == api.LsaSummary {
		a.Sums = append(a.Sums, api.Stub{Node: x.Origin, Prefix: x.Prefix, Cost: x.Cost})
		return
	}
	for _, l := range x.Links {
		a.Edges = append(a.Edges, api.Edge{From: x.Origin, To: l.To, Cost: l.Cost, Link: l.Link})
	}
	for _, s := range x.Stubs {
		a.Stubs = append(a.Stubs, api.Stub{Node: x.Origin, Prefix: s.Prefix, Cost: s.Cost})
	}
}
