package lsr

import (
	"wayfinder/api"
)

// port is an interface: what is given of it, what is known of its other side, and what is to go out at the end of a call.
type port struct {
	api.LsrPort
	up        bool
	neighbour int // 0: nobody
	heard     int // when the neighbour was heard last
	twoWay    bool
	owed      map[key]int // what the neighbour has not acknowledged yet, and when it is due
	hello     bool
	acks      []api.Lsa
}

// key is what tells announcements apart. (An announcement itself can't be held against another one by ==.)
type key struct {
	area, kind, origin int
	prefix             api.Prefix
}

func keyOf(x api.Lsa) key { return key{x.Area, x.Kind, x.Origin, x.Prefix} }

func (p *port) loseNeighbour() {
	p.neighbour = 0
	p.endTwoWay()
}

func (p *port) endTwoWay() {
	p.twoWay = false
	clear(p.owed)
}

// hasInScope says whether an announcement is to be told over this port, if anybody is there.
func (p *port) hasInScope(x api.Lsa) bool {
	return x.Area == p.Area || x.Kind == api.LsaExternal
}

func (p *port) owes(x api.Lsa) bool {
	_, owed := p.owed[keyOf(x)]
	return owed
}
