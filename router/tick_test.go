package router_test

import (
	"fmt"
	"math"
	"testing"

	"wayfinder/api"
	"wayfinder/pfx"
	"wayfinder/router"
)

// TestN7Tick: time goes on for all layers; sessions come by number, and ahead of packets.
func TestN7Tick(t *testing.T) {
	g := ready(t, func(c *api.RouterConfig) {
		c.Peers = []api.RouterPeer{{Link: bothLink, Hold: 9}, {Link: lastLink, Hold: 3}, {Link: peerLink, Hold: 11}}
	})
	want := [][]string{
		1:  {"8 alive"},
		2:  {"8 alive"},
		3:  {"1 alive", "8 notice 4", "7 alive", "0 hello 0", "1 hello 0"},
		4:  nil,
		5:  nil,
		6:  {"1 alive", "7 alive", "0 hello 0", "1 hello 0"},
		7:  nil,
		8:  nil,
		9:  {"1 notice 4", "7 alive", "0 hello 0", "1 hello 0"},
		10: nil,
		11: {"7 notice 4"},
		12: {"0 hello 0", "1 hello 0"},
	}
	for n := 1; n < len(want); n++ {
		g.tick()
		g.went(fmt.Sprint("tick ", n), want[n]...)
	}
}

// TestN7Time: what begins at a time lasts from that time on.
func TestN7Time(t *testing.T) {
	g := made(t)
	for range 5 {
		g.tick()
	}
	g.ok(g.up(peerLink))
	for range api.OpenHold - 1 {
		g.tick()
	}
	g.went("it opens", "7 open 1 5 0")
	if state := g.is.State(1); state != api.SessionOpening {
		t.Errorf("it stands at %d", state)
	}
	g.tick()
	g.went("it has waited", "7 notice 4")
	// A byte that comes lets it wait anew, and what is said is said at that time.
	g = ready(t)
	for range 8 {
		g.tick()
	}
	g.take()
	g.says(2, have(2, nil, eleven))
	g.went("told at 8", "1 have 11.0.0.0/8 [1 4] 50", "7 have 11.0.0.0/8 [1 4] 50")
	for range 8 {
		g.tick()
	}
	if state := g.is.State(2); state != api.SessionUp {
		t.Errorf("at 16 it stands at %d", state)
	}
	g.take()
	g.tick()
	g.went("at 17", "8 notice 4", "1 lost 11.0.0.0/8", "7 lost 11.0.0.0/8")
}

// TestN7Neighbours: who is not heard any more is no way, and peers are told.
func TestN7Neighbours(t *testing.T) {
	g := ready(t, func(c *api.RouterConfig) {
		c.Peers = []api.RouterPeer{{Link: bothLink}, {Link: peerLink}, {Link: lastLink}}
	})
	g.ok(g.receive(portLink, hello()))
	g.ok(g.receive(portLink, ofNine(1)))
	g.says(1, byNine(eleven))
	for range api.DeadAfter - 1 {
		g.tick()
	}
	g.rows("heard", "0.0.0.9/32 4 1 [0]", "11.0.0.0/8 3 1 [0]")
	g.take()
	g.tick()
	g.rows("lost")
	g.went("lost", "1 lost 11.0.0.0/8", "8 lost 11.0.0.0/8")
}

func TestN8TakenOnce(t *testing.T) {
	r, e := router.New(usual())
	if e != api.OK {
		t.Fatal(e)
	}
	r.Up(peerLink)
	r.Send(5, []byte("a"))
	r.Send(80, []byte("b"))
	r.Send(5, []byte("c"))
	r.Up(portLink)
	if l := r.Take(); len(l) != 3 || l[0].Link != peerLink || l[1].Link != peerLink || l[2].Link != portLink {
		t.Errorf("it sent %v", l)
	}
	if l := r.Take(); len(l) != 0 {
		t.Errorf("and then %v", l)
	}
	if l := r.Come(); len(l) != 2 || string(l[0].Bytes) != "a" || string(l[1].Bytes) != "c" {
		t.Errorf("there came %v", l)
	}
	if l := r.Come(); len(l) != 0 {
		t.Errorf("and then %v", l)
	}
	r.Send(5, nil)
	if l := r.Take(); len(l) != 0 {
		t.Errorf("and then it sent %v", l)
	}
	if l := r.Come(); len(l) != 1 || l[0].To != 5 || len(l[0].Bytes) != 0 {
		t.Errorf("and then there came %v", l)
	}
}

func TestN8State(t *testing.T) {
	g := made(t)
	for _, n := range []int{math.MinInt, -2, -1, 3, 4, peerLink, math.MaxInt} {
		if state := g.is.State(n); state != -1 {
			t.Errorf("State of %d is %d", n, state)
		}
	}
	stands := func(want int) {
		t.Helper()
		if state := g.is.State(2); state != want {
			t.Errorf("it stands at %d, must be %d", state, want)
		}
	}
	stands(api.SessionIdle)
	g.ok(g.up(lastLink))
	stands(api.SessionOpening)
	g.says(2, openOf(g.c, 2))
	stands(api.SessionConfirming)
	g.says(2, alive)
	stands(api.SessionUp)
	g.says(2, openOf(g.c, 2))
	stands(api.SessionIdle)
}

func TestN8RowsInOrder(t *testing.T) {
	g := ready(t)
	g.says(0, have(0, nil, pre(0, 0), pre(60, 32), pre(0x0a050000, 15+2), thirteen))
	g.says(1, have(1, nil, pre(0x0a000000, 8), pre(0x0a040000, 15)))
	rows := g.is.Rows()
	if len(rows) != 11 {
		t.Fatalf("%+v", rows)
	}
	for i := 1; i < len(rows); i++ {
		if pfx.Order(rows[i-1].Prefix, rows[i].Prefix) >= 0 {
			t.Errorf("%+v stands ahead of %+v", rows[i-1], rows[i])
		}
	}
}
