package router_test

import (
	"testing"

	"wayfinder/api"
)

// byNine gives an update of peer 1 whose Next is router 9.
func byNine(l ...api.Prefix) api.PvMessage {
	m := have(1, nil, l...)
	m.Route.Next = 9
	return m
}

// TestN2Turn: packets go out first; then ways give costs, costs give what peers are told, and offers give rows.
func TestN2Turn(t *testing.T) {
	g := ready(t)
	g.says(1, byNine(eleven))
	g.went("out of reach")
	g.rows("out of reach")
	g.ok(g.receive(portLink, hello()))
	g.take()
	g.ok(g.receive(portLink, ofNine(1)))
	g.went("within reach", "0 ack of 9", "1 have 11.0.0.0/8 [1 3] 50", "8 have 11.0.0.0/8 [1 3] 50")
	g.rows("within reach", "0.0.0.9/32 4 1 [0]", "11.0.0.0/8 3 1 [0]")
	// The other way is nearer, and costs less.
	g.ok(g.down(portLink))
	g.went("out of reach again", "1 lost 11.0.0.0/8", "8 lost 11.0.0.0/8")
	g.rows("out of reach again")
	g.ok(g.receive(bothLink, hello()))
	g.ok(g.receive(bothLink, ofNine(2)))
	g.rows("within reach again", "0.0.0.9/32 4 2 [1]", "11.0.0.0/8 3 2 [1]")
}

// TestN2Costs: what it costs to come to a next hop, as the ways are now, decides which offer is the best.
func TestN2Costs(t *testing.T) {
	g := ready(t, func(c *api.RouterConfig) { c.Speaker.Peers[2].Id = 99 })
	g.says(1, byNine(eleven))
	nearer := have(2, nil, eleven)
	nearer.Route.Next = 5 // it is here: no row with links leads there
	g.says(2, nearer)
	g.ok(g.receive(portLink, hello()))
	g.ok(g.receive(portLink, ofNine(1)))
	g.rows("one within reach", "0.0.0.9/32 4 1 [0]", "11.0.0.0/8 3 1 [0]")
	g.take()
	g.says(2, have(2, nil, eleven))
	g.went("a nearer one", "1 have 11.0.0.0/8 [1 4] 50", "7 have 11.0.0.0/8 [1 4] 50", "8 lost 11.0.0.0/8")
	g.rows("a nearer one", "0.0.0.9/32 4 1 [0]", "11.0.0.0/8 3 0 [8]")
}

// TestN2Kinds: rows of all sides.
func TestN2Kinds(t *testing.T) {
	g := ready(t, func(c *api.RouterConfig) {
		c.Speaker.Peers[0] = api.SpeakerPeer{Domain: 1, Id: 9}
		c.Fixed = append(c.Fixed, api.Fixed{Prefix: thirteen, Next: 9})
	})
	g.ok(g.receive(bothLink, hello()))
	g.ok(g.receive(bothLink, ofNine(1, api.LsStub{Prefix: twelve, Cost: 7}, api.LsStub{Prefix: thirteen}, api.LsStub{Prefix: fourteen})))
	inner := have(0, nil, eleven, fourteen)
	inner.Route.Path, inner.Route.Next = nil, 9
	g.says(0, inner)
	g.says(1, have(1, nil, twelve))
	g.rows("all", "0.0.0.9/32 4 2 [1]", "11.0.0.0/8 7 2 [1]", "12.0.0.0/8 3 0 [7]", "13.0.0.0/8 2 0 [1]", "14.0.0.0/8 4 2 [1]")
}

// TestN3AtOnce: what an event brings about is told ahead of the next event, and of the turn.
func TestN3AtOnce(t *testing.T) {
	g := ready(t)
	g.says(1, have(1, nil, fourteen)) // what it costs to come to its Next is known from now on
	g.take()
	g.says(1, have(1, nil, eleven), byNine(twelve), lost(eleven), have(1, []int{6}, fourteen))
	g.went("four", "1 have 11.0.0.0/8 [1 3] 50", "8 have 11.0.0.0/8 [1 3] 50", "1 lost 11.0.0.0/8", "8 lost 11.0.0.0/8", "1 have 14.0.0.0/8 [1 3 6] 50", "8 have 14.0.0.0/8 [1 3 6] 50")
}

// TestN3NewNext: what it costs to come to a Next that was not told ahead of it is known from the turn on.
func TestN3NewNext(t *testing.T) {
	g := ready(t)
	g.says(1, have(1, nil, eleven), have(1, nil, twelve), have(1, []int{6}, eleven))
	g.went("three", "1 have 11.0.0.0/8 [1 3 6] 50", "1 have 12.0.0.0/8 [1 3] 50", "8 have 11.0.0.0/8 [1 3 6] 50", "8 have 12.0.0.0/8 [1 3] 50")
}

// TestN3Frames: what a session answers in one call is one frame, and each message is a call of its own.
func TestN3Frames(t *testing.T) {
	g := made(t, func(c *api.RouterConfig) { c.Own = append(c.Own, api.Route{Prefix: eleven}) })
	g.ok(g.up(peerLink))
	g.take()
	g.says(1, openOf(g.c, 1), alive, have(1, nil, twelve))
	g.went("all in one", "7 alive", "7 have 10.5.0.0/16 [1] 50", "7 have 11.0.0.0/8 [1] 50")
	g.ok(g.up(lastLink))
	g.says(2, openOf(g.c, 2))
	g.went("it opens", "8 open 1 5 9", "8 alive")
	g.says(2, alive)
	g.went("it comes up", "8 have 10.5.0.0/16 [1] 50", "8 have 11.0.0.0/8 [1] 50", "8 have 12.0.0.0/8 [1 3] 50")
}

// TestN3AliveAhead: a session that is told at a time when it owes an alive sends both in one frame.
func TestN3AliveAhead(t *testing.T) {
	g := ready(t, func(c *api.RouterConfig) { c.Peers[0].Hold = 3 })
	g.says(0, have(0, nil, eleven))
	g.take()
	g.tick()
	g.tick()
	g.went("two ticks", "1 alive", "1 alive")
	g.tick()
	g.went("the third", "1 notice 4", "7 lost 11.0.0.0/8", "8 alive lost 11.0.0.0/8", "0 hello 0", "1 hello 0")
}

// TestN3EndsWithinTold: a session that ends when it is told something is handled at once, and what comes of that is told ahead of what is still to be told.
func TestN3EndsWithinTold(t *testing.T) {
	g := ready(t, func(c *api.RouterConfig) {
		c.Peers = []api.RouterPeer{{Link: bothLink, Hold: 9}, {Link: peerLink, Hold: 9}, {Link: lastLink}}
	})
	g.says(0, have(0, nil, eleven))
	g.says(1, have(1, []int{6}, eleven), have(1, nil, twelve))
	g.went("told", "7 have 11.0.0.0/8 [1 2] 50", "8 have 11.0.0.0/8 [1 2] 50", "1 have 12.0.0.0/8 [1 3] 50", "8 have 12.0.0.0/8 [1 3] 50")
	for range 8 {
		g.tick()
	}
	g.take()
	g.tick()
	g.went("both end", "1 notice 4", "7 notice 4", "8 lost 11.0.0.0/8", "8 lost 12.0.0.0/8", "8 have 11.0.0.0/8 [1 3 6] 50", "0 hello 0", "1 hello 0")
	g.rows("both end")
}

// TestN3Notice: the other end has ended the session.
func TestN3Notice(t *testing.T) {
	g := ready(t)
	g.says(1, have(1, nil, eleven))
	g.take()
	g.says(1, have(1, []int{6}, eleven), api.PvMessage{Kind: api.PvNotice, Code: api.EndStop}, have(1, nil, twelve))
	g.went("it ends", "1 have 11.0.0.0/8 [1 3 6] 50", "8 have 11.0.0.0/8 [1 3 6] 50", "1 lost 11.0.0.0/8", "8 lost 11.0.0.0/8")
	g.rows("it ends")
}

// many gives prefixes that rise.
func many(from, n int) []api.Prefix {
	var out []api.Prefix
	for i := range n {
		out = append(out, pre(uint32(from+i)<<16, 16))
	}
	return out
}

// TestN3HearRefuses: the speaker takes no more than so many prefixes; the session is stopped, and nothing behind that is heard.
func TestN3HearRefuses(t *testing.T) {
	g := ready(t)
	all := byNine(many(0x1000, api.MaxTold-1)...)
	g.says(1, all, have(1, nil, eleven))
	g.went("as many as may be", "1 have 11.0.0.0/8 [1 3] 50", "8 have 11.0.0.0/8 [1 3] 50")
	g.says(1, lost(twelve), have(1, []int{6}, eleven))
	g.take()
	if state := g.is.State(1); state != api.SessionUp {
		t.Fatalf("it stands at %d", state)
	}
	g.says(1, have(1, []int{7}, eleven), have(1, nil, twelve), have(1, nil, thirteen), lost(eleven))
	g.went("one more", "1 have 11.0.0.0/8 [1 3 7] 50", "8 have 11.0.0.0/8 [1 3 7] 50", "7 notice 6", "1 lost 11.0.0.0/8", "8 lost 11.0.0.0/8")
	g.rows("one more")
	if state := g.is.State(1); state != api.SessionIdle {
		t.Errorf("it stands at %d", state)
	}
	// It may be begun again.
	g.ok(g.down(peerLink))
	g.ok(g.up(peerLink))
	g.take()
	g.open(1)
	g.says(1, all, have(1, nil, eleven))
	g.went("again", "7 alive", "7 have 10.5.0.0/16 [1] 50", "1 have 11.0.0.0/8 [1 3] 50", "8 have 11.0.0.0/8 [1 3] 50")
}

// TestN3HearRefusesAtTheEnd: so it is when the session has ended by the same bytes.
func TestN3HearRefusesAtTheEnd(t *testing.T) {
	g := ready(t)
	f := frameOf(have(1, nil, eleven), byNine(many(0x1000, api.MaxTold)...), have(1, nil, twelve))
	g.ok(g.receive(peerLink, append(f, 7)))
	g.went("too many, and a wrong byte", "7 notice 1")
	g.rows("too many, and a wrong byte")
	if state := g.is.State(1); state != api.SessionIdle {
		t.Errorf("it stands at %d", state)
	}
}
