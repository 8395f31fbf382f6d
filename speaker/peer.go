package speaker

import (
	"wayfinder/api"
)

// peer is a router that is spoken with: what is given of it, what it tells, and what it was told. It has both while it is up alone.
type peer struct {
	api.SpeakerPeer
	number int
	inner  bool
	up     bool
	tells  map[api.Prefix]tale
	told   map[api.Prefix]api.Route
}

// tale is what a peer tells of a prefix: the route as it has come in. Of one that was refused nothing is known but its Next.
type tale struct {
	api.Route
	refused bool
}

// peerThatIs gives the peer of a number, which must be up, or down.
func (s *Speaker) peerThatIs(up bool, n int) (*peer, api.Errno) {
	if n < 0 || n >= len(s.peers) {
		return nil, api.ErrNone
	}
	if s.peers[n].up != up {
		return nil, api.ErrState
	}
	return s.peers[n], api.OK
}

// wouldTell tells of how many prefixes the peer tells behind an update, which can be written.
func (p *peer) wouldTell(m api.PvMessage) int {
	n := len(p.tells)
	for _, at := range m.Lost {
		if _, tells := p.tells[at]; tells {
			n--
		}
	}
	for _, at := range m.Have {
		if _, tells := p.tells[at]; !tells {
			n++
		}
	}
	return n
}
