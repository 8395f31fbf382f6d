package speaker

import (
	"maps"
	"slices"

	"wayfinder/api"
	"wayfinder/choose"
	"wayfinder/pfx"
)

// ownPeer stands in the offer of an own route in the place of a peer's number.
const ownPeer = -1

// outOfReach is what it costs to come to where nobody knows the cost of.
const outOfReach = -1

func isOutOfReach(o api.Offer) bool { return o.Cost < 0 }

func costOf(costs map[uint32]int, next uint32) int {
	if cost, known := costs[next]; known {
		return cost
	}
	return outOfReach
}

// comeIn gives what becomes of a route that a peer tells.
func (s *Speaker) comeIn(p *peer, r api.Route) tale {
	refused := tale{Route: api.Route{Next: r.Next}, refused: true}
	if s.mustRefuse(p, r) {
		return refused
	}
	if !p.inner {
		r.Pref, r.Author, r.Clusters = api.UsualPref, 0, nil
	}
	r, passed := s.pass(p.In, r)
	if !passed {
		return refused
	}
	if r.Author == 0 {
		r.Author = p.Id
	}
	return tale{Route: r}
}

// mustRefuse says whether a route has been here, or is not the peer's to tell.
func (s *Speaker) mustRefuse(p *peer, r api.Route) bool {
	if slices.Contains(r.Path, s.domain) {
		return true
	}
	if p.inner {
		return r.Author == s.id || s.cluster != 0 && slices.Contains(r.Clusters, s.cluster)
	}
	return len(r.Path) == 0 || r.Path[0] != p.Domain
}

// pass runs a policy, if one is named, and says whether the route may pass.
func (s *Speaker) pass(name string, r api.Route) (api.Route, bool) {
	if name == "" {
		return r, true
	}
	r, how, _ := s.code.Run(name, r, s.domain)
	return r, how == api.Accept
}

// asOwn gives an own route as it is offered.
func (s *Speaker) asOwn(r api.Route) api.Route {
	r = copyRoute(r)
	r.Author, r.Next = s.id, s.addr
	return r
}

// offersOf gives all offers of a prefix, by their peers.
func (s *Speaker) offersOf(at api.Prefix) []api.Offer {
	var out []api.Offer
	if r, has := s.own[at]; has {
		out = append(out, api.Offer{Route: r, Peer: ownPeer})
	}
	for _, p := range s.peers {
		if t, tells := p.tells[at]; tells && !t.refused {
			out = append(out, api.Offer{Route: t.Route, Peer: p.number, Inner: p.inner, Cost: costOf(s.costs, t.Next)})
		}
	}
	return out
}

// bestOf gives the best offer of each of some prefixes, each once, rising. Where none can be reached stands one that is nothing but out of reach. It sorts the list that it is handed.
func (s *Speaker) bestOf(prefixes []api.Prefix) []api.Offer {
	slices.SortFunc(prefixes, pfx.Order)
	var out []api.Offer
	for _, at := range slices.Compact(prefixes) {
		best := api.Offer{Route: api.Route{Prefix: at}, Cost: outOfReach}
		offers := s.offersOf(at)
		if i := choose.Best(offers); i >= 0 {
			best = offers[i]
		}
		out = append(out, best)
	}
	return out
}

// bestOfAll gives the best offer of each prefix of which something is known.
func (s *Speaker) bestOfAll() []api.Offer {
	prefixes := slices.Collect(maps.Keys(s.own))
	for _, p := range s.peers {
		for at := range p.tells {
			prefixes = append(prefixes, at)
		}
	}
	return s.bestOf(prefixes)
}
