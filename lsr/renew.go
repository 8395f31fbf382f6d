package lsr

import (
	"slices"

	"wayfinder/api"
	"wayfinder/area"
	"wayfinder/lsa"
	"wayfinder/pfx"
)

// renew lets the router's own announcements be as it wants them.
func (r *Router) renew() {
	wanted := r.ofItself()
	r.tell(wanted)
	// What lies elsewhere is worked out only now: it hangs on what the router tells of itself.
	elsewhere := append(r.ofAreas(), r.ofOuter()...)
	r.tell(elsewhere)
	r.withdrawAllBut(append(wanted, elsewhere...))
}

// ofItself gives what the router wants to tell of its neighbours and stubs, area by area.
func (r *Router) ofItself() []api.Lsa {
	var out []api.Lsa
	for _, n := range r.areas {
		x := api.Lsa{Kind: api.LsaRouter, Area: n, Origin: r.id}
		for _, p := range r.ports {
			if p.Area == n && p.twoWay {
				x.Links = append(x.Links, api.LsLink{To: p.neighbour, Cost: p.Cost, Link: p.Link})
			}
		}
		x.Stubs = r.stubsIn(n)
		out = append(out, x)
	}
	return out
}

// stubsIn gives the stubs of an area and the router's own prefix, in order.
func (r *Router) stubsIn(n int) []api.LsStub {
	out := []api.LsStub{{Prefix: api.Prefix{Addr: uint32(r.id), Len: 32}}}
	for _, s := range r.stubs {
		if s.Area == n {
			out = append(out, api.LsStub{Prefix: s.Prefix, Cost: s.Cost})
		}
	}
	slices.SortFunc(out, func(s, t api.LsStub) int { return pfx.Order(s.Prefix, t.Prefix) })
	return out
}

// ofAreas gives what the router wants to tell each of its areas of the others.
func (r *Router) ofAreas() []api.Lsa {
	var out []api.Lsa
	for _, s := range area.Sums(r.Base(), r.id) {
		out = append(out, api.Lsa{Kind: api.LsaSummary, Area: s.Area, Origin: r.id, Prefix: s.Prefix, Cost: s.Cost})
	}
	return out
}

// ofOuter gives what the router wants to tell of its outer prefixes.
func (r *Router) ofOuter() []api.Lsa {
	var out []api.Lsa
	for _, x := range r.outer {
		out = append(out, api.Lsa{Kind: api.LsaExternal, Area: api.Everywhere, Origin: r.id, Prefix: x.Prefix, Cost: x.Cost, Tag: x.Tag})
	}
	return out
}

func (r *Router) tell(wanted []api.Lsa) {
	for _, x := range wanted {
		r.tellOne(x)
	}
}

// tellOne takes what is wanted without Seq and Age.
func (r *Router) tellOne(x api.Lsa) {
	y, kept := r.kept.at(x)
	switch {
	case !kept:
		x.Seq = 1
	case y.Age < api.Refresh && sameBody(x, y):
		return
	case y.Seq < api.MaxSeq:
		x.Seq = y.Seq + 1
	case ended(y):
		return
	default: // There is no greater Seq: all must forget y ahead of a new beginning.
		x = y
		x.Age = api.MaxAge
	}
	r.keep(x)
}

func sameBody(x, y api.Lsa) bool {
	return x.Cost == y.Cost && x.Tag == y.Tag && slices.Equal(x.Links, y.Links) && slices.Equal(x.Stubs, y.Stubs)
}

// withdrawAllBut ends the router's own announcements that it does not want.
func (r *Router) withdrawAllBut(wanted []api.Lsa) {
	slices.SortFunc(wanted, lsa.Order)
	for i := range r.kept {
		x := &r.kept[i]
		if x.Origin != r.id || ended(*x) {
			continue
		}
		if _, found := slices.BinarySearchFunc(wanted, *x, lsa.Order); !found {
			x.Age = api.MaxAge
			r.owe(*x)
		}
	}
}
