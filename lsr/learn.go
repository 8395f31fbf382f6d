package lsr

import (
	"wayfinder/api"
	"wayfinder/lsa"
)

// How an announcement that comes stands to the one that is kept.
const (
	isNewer = iota
	isSame
	isOver // it has ended, and nothing is known of it
	isOlder
)

func (r *Router) takePacket(p *port, packet api.Packet) {
	if packet.Area != p.Area {
		return
	}
	if packet.Kind == api.PktHello {
		r.greet(p, packet.From, packet.Seen)
		return
	}
	if !p.twoWay || packet.From != p.neighbour {
		return
	}
	for _, x := range packet.Lsas {
		if packet.Kind == api.PktUpdate {
			r.learn(p, x)
		} else {
			r.settle(p, x)
		}
	}
}

// greet takes a hello.
func (r *Router) greet(p *port, from, seen int) {
	if from == r.id {
		return
	}
	if p.neighbour != from {
		p.loseNeighbour()
		p.hello = true
	}
	p.neighbour, p.heard = from, r.now
	twoWay := seen == r.id
	if twoWay == p.twoWay {
		return
	}
	p.hello = true
	if !twoWay {
		p.endTwoWay()
		return
	}
	p.twoWay = true
	for _, x := range r.kept {
		if p.hasInScope(x) {
			p.owed[keyOf(x)] = r.now
		}
	}
}

// learn takes an announcement of an update. The cases fall through: what is newer is the same once it is kept, and of what is the same nothing is owed to the one that told it, who is told so.
func (r *Router) learn(p *port, x api.Lsa) {
	if !p.hasInScope(x) {
		return
	}
	switch r.compare(x) {
	case isNewer:
		r.keep(x)
		fallthrough
	case isSame:
		delete(p.owed, keyOf(x))
		fallthrough
	case isOver:
		p.acks = append(p.acks, x)
	case isOlder:
		p.owed[keyOf(x)] = r.now
	}
}

func (r *Router) compare(x api.Lsa) int {
	y, kept := r.kept.at(x)
	if !kept && ended(x) {
		return isOver
	}
	if !kept {
		return isNewer
	}
	switch lsa.Newer(x, y) {
	case 1:
		return isNewer
	case 0:
		return isSame
	}
	return isOlder
}

// settle takes an announcement of an acknowledgement.
func (r *Router) settle(p *port, x api.Lsa) {
	if y, kept := r.kept.at(x); kept && lsa.Newer(x, y) == 0 {
		delete(p.owed, keyOf(x))
	}
}
