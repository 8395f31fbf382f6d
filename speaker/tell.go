package speaker

import (
	"slices"

	"wayfinder/api"
	"wayfinder/pv"
)

// settle tells all peers what has become other by what was touched; each call that changes something ends with it.
func (s *Speaker) settle(touched []api.Prefix) []api.Told {
	best := s.bestOf(touched)
	var out []api.Told
	for _, p := range s.peers {
		if p.up {
			out = append(out, s.tell(p, best)...)
		}
	}
	return out
}

// tell tells a peer of some prefixes what goes out of their best offers, where that is something else than it was told last.
func (s *Speaker) tell(p *peer, best []api.Offer) []api.Told {
	var out []api.Told
	for _, o := range best {
		at := o.Route.Prefix
		last, told := p.told[at]
		r, goes := s.goesOut(p, o)
		switch {
		case goes && !(told && isSame(r, last)):
			p.told[at] = r
			out = append(out, api.Told{Peer: p.number, Message: haveUpdate(copyRoute(r))})
		case told && !goes:
			delete(p.told, at)
			out = append(out, api.Told{Peer: p.number, Message: lostUpdate(at)})
		}
	}
	return out
}

// goesOut gives what goes out to a peer of a best offer, and whether something does.
func (s *Speaker) goesOut(p *peer, o api.Offer) (api.Route, bool) {
	if isOutOfReach(o) || o.Peer == p.number || !s.mayKnow(p, o) {
		return api.Route{}, false
	}
	r, passed := s.pass(p.Out, s.turned(p, o))
	if !passed {
		return api.Route{}, false
	}
	if _, e := pv.Encode(haveUpdate(r)); e != api.OK {
		return api.Route{}, false
	}
	return r, true
}

// mayKnow says whether an offer may be told to a peer, whatever its policy says.
func (s *Speaker) mayKnow(p *peer, o api.Offer) bool {
	marks := o.Route.Marks
	switch {
	case slices.Contains(marks, api.MarkHere):
		return false
	case !p.inner:
		return !slices.Contains(marks, api.MarkInside) && !slices.Contains(o.Route.Path, p.Domain)
	case o.Inner:
		// That Cluster is not 0 need not be asked: a speaker without one has no clients.
		return p.Client || s.peers[o.Peer].Client
	}
	return true
}

// turned gives an offer's route as it is for a peer that may know it.
func (s *Speaker) turned(p *peer, o api.Offer) api.Route {
	r := o.Route
	if p.inner && o.Inner {
		r.Clusters = ahead(s.cluster, r.Clusters)
		return r
	}
	r.Author, r.Clusters = 0, nil
	if !p.inner {
		r.Path = ahead(s.domain, r.Path)
		r.Pref, r.Med, r.Next = 0, 0, s.addr
	}
	return r
}

// ahead puts a number ahead of a list, in new memory.
func ahead(n int, list []int) []int { return slices.Concat([]int{n}, list) }

// haveUpdate is the update that tells one route.
func haveUpdate(r api.Route) api.PvMessage {
	at := r.Prefix
	r.Prefix = api.Prefix{}
	return api.PvMessage{Kind: api.PvUpdate, Have: []api.Prefix{at}, Route: r}
}

func lostUpdate(at api.Prefix) api.PvMessage {
	return api.PvMessage{Kind: api.PvUpdate, Lost: []api.Prefix{at}}
}

func copyRoute(r api.Route) api.Route {
	r.Path, r.Marks, r.Clusters = slices.Clone(r.Path), slices.Clone(r.Marks), slices.Clone(r.Clusters)
	return r
}

func isSame(a, b api.Route) bool {
	return a.Prefix == b.Prefix && a.Origin == b.Origin && a.Pref == b.Pref && a.Med == b.Med && a.Next == b.Next && a.Author == b.Author &&
		slices.Equal(a.Path, b.Path) && slices.Equal(a.Marks, b.Marks) && slices.Equal(a.Clusters, b.Clusters)
}
