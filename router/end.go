package router

import (
	"wayfinder/api"
	"wayfinder/session"
)

// maxLink is the greatest number of an interface.
const maxLink = 1<<16 - 1

// noPeer is how the session of a peer stands that there is not.
const noPeer = -1

// end is an interface, the router's end of a wire.
type end struct {
	up   bool
	port bool  // the routers of the own domain are spoken with over it
	peer *peer // nil: no session runs over it
}

// peer is a router with which a session runs.
type peer struct {
	*session.Session
	number, link int
}

// endAt gives the interface of a link; if there is none yet, there is now.
func (r *Router) endAt(link int) *end {
	at := r.ends[link]
	if at == nil {
		at = &end{}
		r.ends[link] = at
	}
	return at
}

// endThatIs gives the interface of a link, which must be up, or down.
func (r *Router) endThatIs(up bool, link int) (*end, api.Errno) {
	at := r.ends[link]
	switch {
	case at == nil:
		return nil, api.ErrNone
	case at.up != up:
		return nil, api.ErrState
	}
	return at, api.OK
}

func (r *Router) addPorts(ports []api.LsrPort) {
	for _, p := range ports {
		r.endAt(p.Link).port = true
	}
}

func (r *Router) addPeers(c api.RouterConfig) api.Errno {
	if len(c.Peers) != len(c.Speaker.Peers) {
		return api.ErrForm
	}
	for i, given := range c.Peers {
		who := api.SessionConfig{Domain: c.Speaker.Domain, Id: c.Speaker.Id, Hold: given.Hold, Peer: c.Speaker.Peers[i].Domain}
		if e := r.addPeer(given.Link, who); e != api.OK {
			return e
		}
	}
	return api.OK
}

func (r *Router) addPeer(link int, who api.SessionConfig) api.Errno {
	if link < 0 || link > maxLink {
		return api.ErrRange
	}
	at := r.endAt(link)
	if at.peer != nil {
		return api.ErrTwice
	}
	s, e := session.New(who)
	if e != api.OK {
		return e
	}
	at.peer = &peer{Session: s, number: len(r.peers), link: link}
	r.peers = append(r.peers, at.peer)
	return api.OK
}
