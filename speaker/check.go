package speaker

import (
	"slices"

	"wayfinder/api"
	"wayfinder/pfx"
	"wayfinder/pv"
)

// maxNumber is the greatest number of a domain, a router or a cluster.
const maxNumber = 1<<32 - 1

func within(n, least, most int) bool { return least <= n && n <= most }

// isName says whether a number may name a domain or a router.
func isName(n int) bool { return within(n, 1, maxNumber) }

func inRange(c api.SpeakerConfig) bool {
	return len(c.Peers) <= api.MaxPeers && isName(c.Domain) && isName(c.Id) && within(c.Cluster, 0, maxNumber) &&
		!slices.ContainsFunc(c.Peers, func(p api.SpeakerPeer) bool { return !isName(p.Domain) || !isName(p.Id) })
}

// clientsFit says whether all clients are of the own domain, and the speaker reflects, if it has some.
func clientsFit(c api.SpeakerConfig) bool {
	return !slices.ContainsFunc(c.Peers, func(p api.SpeakerPeer) bool {
		return p.Client && (p.Domain != c.Domain || c.Cluster == 0)
	})
}

func namesKnown(c api.SpeakerConfig) bool {
	known := func(name string) bool {
		return name == "" || slices.ContainsFunc(c.Policies.Policies, func(p api.Policy) bool { return p.Name == name })
	}
	return !slices.ContainsFunc(c.Peers, func(p api.SpeakerPeer) bool { return !known(p.In) || !known(p.Out) })
}

func checkOwn(l []api.Route) api.Errno {
	if slices.ContainsFunc(l, func(r api.Route) bool { return !pfx.Valid(r.Prefix) }) {
		return api.ErrBits
	}
	seen := map[api.Prefix]struct{}{}
	for _, r := range l {
		seen[r.Prefix] = struct{}{}
	}
	if len(seen) < len(l) {
		return api.ErrTwice
	}
	for _, r := range l {
		if _, e := pv.Encode(haveUpdate(r)); e != api.OK {
			return e
		}
	}
	return api.OK
}

// costsOf gives the costs of a list by next hop.
func costsOf(l []api.NextCost) (map[uint32]int, api.Errno) {
	costs := map[uint32]int{}
	for _, c := range l {
		costs[c.Next] = c.Cost
	}
	if len(costs) < len(l) {
		return nil, api.ErrTwice
	}
	if slices.ContainsFunc(l, func(c api.NextCost) bool { return c.Cost < 0 }) {
		return nil, api.ErrRange
	}
	return costs, api.OK
}
