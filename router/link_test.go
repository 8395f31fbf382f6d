package router_test

import (
	"math"
	"testing"

	"wayfinder/api"
)

func TestN4Refuses(t *testing.T) {
	g := made(t)
	for _, link := range []int{math.MinInt, -1, 2, noLink, 65535, 65536 + bothLink, 1<<32 + bothLink, math.MaxInt} {
		g.refuses("Up of none", api.ErrNone, func() api.Errno { return g.up(link) })
		g.refuses("Down of none", api.ErrNone, func() api.Errno { return g.down(link) })
	}
	for _, link := range []int{portLink, bothLink, peerLink, lastLink} {
		g.refuses("Down", api.ErrState, func() api.Errno { return g.down(link) })
		g.ok(g.up(link))
		g.refuses("Up again", api.ErrState, func() api.Errno { return g.up(link) })
		g.ok(g.down(link))
		g.refuses("Down again", api.ErrState, func() api.Errno { return g.down(link) })
	}
}

// TestN4Up: a port greets; a session opens, and ahead of that, where both are.
func TestN4Up(t *testing.T) {
	g := made(t)
	g.ok(g.up(portLink))
	g.went("a port", "0 hello 0")
	g.ok(g.up(bothLink))
	g.went("both", "1 open 1 5 30", "1 hello 0")
	g.ok(g.up(peerLink))
	g.went("a peer's", "7 open 1 5 0")
	for n, want := range []int{api.SessionOpening, api.SessionOpening, api.SessionIdle} {
		if state := g.is.State(n); state != want {
			t.Errorf("session %d stands at %d, must be %d", n, state, want)
		}
	}
}

// TestN4Down: what was known over an interface is lost, others are told, and nothing goes out over that one.
func TestN4Down(t *testing.T) {
	g := ready(t)
	g.ok(g.receive(bothLink, hello()))
	g.ok(g.receive(bothLink, ofNine(1, api.LsStub{Prefix: fourteen})))
	g.says(0, have(0, nil, eleven))
	g.take()
	g.rows("up", "0.0.0.9/32 4 2 [1]", "11.0.0.0/8 3 0 [1]", "14.0.0.0/8 4 2 [1]")
	g.ok(g.down(bothLink))
	g.went("down", "7 lost 11.0.0.0/8", "8 lost 11.0.0.0/8")
	g.rows("down")
	if g.is.State(0) != api.SessionIdle || g.is.State(1) != api.SessionUp {
		t.Errorf("the sessions stand at %d %d", g.is.State(0), g.is.State(1))
	}
	// It begins anew.
	g.ok(g.up(bothLink))
	g.went("up again", "1 open 1 5 30", "1 hello 0")
	g.open(0)
	g.went("opened again", "1 alive", "1 have 10.5.0.0/16 [1] 50")
	g.rows("up again")
}

// TestN4DownOfAPort: the port that is down is no way any more.
func TestN4DownOfAPort(t *testing.T) {
	g := ready(t)
	g.ok(g.receive(portLink, hello()))
	g.ok(g.receive(portLink, ofNine(1)))
	g.rows("up", "0.0.0.9/32 4 1 [0]")
	g.ok(g.down(portLink))
	g.rows("down")
	g.ok(g.up(portLink))
	g.rows("up again")
}

// TestN4DownWhileOpening: a session that is not up yet ends without a word.
func TestN4DownWhileOpening(t *testing.T) {
	g := made(t)
	g.ok(g.up(peerLink))
	g.says(1, openOf(g.c, 1))
	g.went("confirming", "7 open 1 5 0", "7 alive")
	g.ok(g.down(peerLink))
	g.went("down")
	if state := g.is.State(1); state != api.SessionIdle {
		t.Errorf("it stands at %d", state)
	}
	// Half of a message that came ahead of that is forgotten.
	g.ok(g.up(peerLink))
	g.ok(g.receive(peerLink, frameOf(alive)[:5]))
	g.ok(g.down(peerLink))
	g.ok(g.up(peerLink))
	g.take()
	g.open(1)
	g.went("up", "7 alive", "7 have 10.5.0.0/16 [1] 50")
}
