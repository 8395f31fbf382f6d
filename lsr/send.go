package lsr

import (
	"wayfinder/api"
	"wayfinder/lsa"
)

func (r *Router) sendAll() {
	for _, p := range r.ports {
		if p.up {
			r.sendOver(p)
		}
	}
}

// sendOver lets all go out that is to go over a port.
func (r *Router) sendOver(p *port) {
	if p.hello {
		r.send(p, api.Packet{Kind: api.PktHello, Seen: p.neighbour})
	}
	for _, x := range p.acks {
		r.send(p, api.Packet{Kind: api.PktAck, Lsas: []api.Lsa{x}})
	}
	p.hello, p.acks = false, nil
	if len(p.owed) == 0 {
		return
	}
	// All that is owed is kept; to go through what is kept gives it in order.
	for _, x := range r.kept {
		if due, owed := p.owed[keyOf(x)]; owed && due <= r.now {
			p.owed[keyOf(x)] = r.now + api.Resend
			x.Age = min(x.Age+1, api.MaxAge)
			r.send(p, api.Packet{Kind: api.PktUpdate, Lsas: []api.Lsa{x}})
		}
	}
}

func (r *Router) send(p *port, packet api.Packet) {
	packet.From, packet.Area = r.id, p.Area
	// What is kept, or was heard, is right: it can be encoded.
	b, _ := lsa.Encode(packet)
	r.sent = append(r.sent, api.Sent{Link: p.Link, Bytes: b})
}
