package router

import (
	"slices"

	"wayfinder/api"
)

// turn lets each layer know what the others have come to know. All calls end with it but those that carry data.
func (r *Router) turn() {
	for _, s := range r.near.Take() {
		r.send(s.Link, api.FrameLsr, s.Bytes)
	}
	r.write(r.table.Ways(r.near.Ways()))
	// The table tells the cost of each address once, and none below 0: the speaker refuses nothing.
	told, _ := r.speaker.Costs(r.table.Costs(r.speaker.Nexts()))
	r.tell(told)
	r.write(r.table.Offers(r.speaker.Best()))
}

// receiveNear takes a packet of a router of the own domain.
func (r *Router) receiveNear(link int, b []byte) api.Errno {
	if e := r.near.Hear(link, b); e != api.OK {
		return e
	}
	r.turn()
	return api.OK
}

// tell hands what the speaker says to the sessions of those to whom it says it.
func (r *Router) tell(told []api.Told) {
	for _, t := range told {
		p := r.peers[t.Peer]
		// Whom a session can't tell anything has gone: the session says so by an event, or has said so.
		out, _ := p.Tell(t.Message, r.now)
		r.handle(p, out)
	}
}

// handle does what a session asks for. It may come back to itself by way of tell, but only where a session has ended by that, so no more often than there are peers.
func (r *Router) handle(p *peer, out api.SessionOut) {
	if len(out.Bytes) > 0 {
		r.send(p.link, api.FramePeer, out.Bytes)
	}
	for _, event := range out.Events {
		r.take(p, event)
	}
}

// take does what an event asks for.
func (r *Router) take(p *peer, event api.SessionEvent) {
	told, e := r.pass(p.number, event)
	// Only what a peer has said can be refused: a session comes up and goes down by turns.
	if e != api.OK {
		r.handle(p, p.Stop(r.now))
		return
	}
	r.tell(told)
}

// pass hands an event on to the speaker.
func (r *Router) pass(n int, event api.SessionEvent) ([]api.Told, api.Errno) {
	switch event.Kind {
	case api.EventUp:
		return r.speaker.Up(n)
	case api.EventDown:
		return r.speaker.Down(n)
	}
	return r.speaker.Hear(n, event.Message)
}

// send lets a frame go out over an interface, if it is up.
func (r *Router) send(link int, kind byte, rest []byte) {
	if _, e := r.endThatIs(true, link); e == api.OK {
		r.sent = append(r.sent, api.Sent{Link: link, Bytes: slices.Concat([]byte{kind}, rest)})
	}
}
