package lsr_test

import (
	"fmt"
	"slices"
	"testing"

	"wayfinder/api"
	"wayfinder/lsa"
	"wayfinder/lsr"
	"wayfinder/pfx"
)

func at(a uint32, n int) api.Prefix { return api.Prefix{Addr: a, Len: n} }

var (
	six    = at(0x06000000, 8)
	ten    = at(0x0a000000, 8)
	eleven = at(0x0b000000, 8)
)

func port(link, area, cost int) api.LsrPort {
	return api.LsrPort{Link: link, Area: area, Cost: cost}
}

func stub(area int, p api.Prefix, cost int) api.LsrStub {
	return api.LsrStub{Area: area, Prefix: p, Cost: cost}
}

func outer(p api.Prefix, cost, tag int) api.LsrExt {
	return api.LsrExt{Prefix: p, Cost: cost, Tag: tag}
}

func hello(from, area, seen int) api.Packet {
	return api.Packet{Kind: api.PktHello, From: from, Area: area, Seen: seen}
}

func update(from, area int, l ...api.Lsa) api.Packet {
	return api.Packet{Kind: api.PktUpdate, From: from, Area: area, Lsas: l}
}

func ack(from, area int, l ...api.Lsa) api.Packet {
	return api.Packet{Kind: api.PktAck, From: from, Area: area, Lsas: l}
}

func ofRouter(area, origin, seq, age int, links ...api.LsLink) api.Lsa {
	own := []api.LsStub{{Prefix: at(uint32(origin), 32)}}
	return api.Lsa{Kind: api.LsaRouter, Area: area, Origin: origin, Seq: seq, Age: age, Links: links, Stubs: own}
}

func ofPrefix(area, origin int, p api.Prefix, seq, age, cost int) api.Lsa {
	return api.Lsa{Kind: api.LsaSummary, Area: area, Origin: origin, Prefix: p, Seq: seq, Age: age, Cost: cost}
}

func ofOuter(origin int, p api.Prefix, seq, age, cost, tag int) api.Lsa {
	return api.Lsa{Kind: api.LsaExternal, Area: api.Everywhere, Origin: origin, Prefix: p, Seq: seq, Age: age, Cost: cost, Tag: tag}
}

// rig is a router, and what a test knows of it.
type rig struct {
	*lsr.Router
	t *testing.T
	c api.LsrConfig
}

// begin gives a router of which all ports are up, and which has been heard so far.
func begin(t *testing.T, c api.LsrConfig) rig {
	t.Helper()
	r, e := lsr.New(c)
	if e != api.OK || r == nil {
		t.Fatalf("New %+v: %v", c, e)
	}
	for _, p := range c.Ports {
		if e := r.Up(p.Link); e != api.OK {
			t.Fatalf("Up %d: %v", p.Link, e)
		}
	}
	r.Take()
	return rig{r, t, c}
}

func (g rig) hear(link int, packets ...api.Packet) {
	g.t.Helper()
	for _, p := range packets {
		b, e := lsa.Encode(p)
		if e != api.OK {
			g.t.Fatalf("%+v: %v", p, e)
		}
		if e := g.Hear(link, b); e != api.OK {
			g.t.Fatalf("Hear %+v: %v", p, e)
		}
	}
}

func (g rig) ticks(n int) {
	for range n {
		g.Tick()
	}
}

func (g rig) areaOf(link int) int {
	return g.c.Ports[slices.IndexFunc(g.c.Ports, func(p api.LsrPort) bool { return p.Link == link })].Area
}

// meet lets a neighbour be two-way that has acknowledged all that it was told.
func (g rig) meet(link, from int) {
	g.t.Helper()
	g.hear(link, hello(from, g.areaOf(link), g.c.ID))
	g.settle()
}

// settle lets all neighbours acknowledge all that went out, until nothing more does.
func (g rig) settle() {
	g.t.Helper()
	near := map[int]int{}
	for _, n := range g.Near() {
		near[n.Link] = n.ID
	}
	for sent := g.Take(); len(sent) > 0; sent = g.Take() {
		for _, s := range sent {
			if p := g.decode(s); p.Kind == api.PktUpdate {
				g.hear(s.Link, ack(near[s.Link], p.Area, p.Lsas...))
			}
		}
	}
}

func (g rig) decode(s api.Sent) api.Packet {
	g.t.Helper()
	p, e := lsa.Decode(s.Bytes)
	if e != api.OK || p.From != g.c.ID || p.Area != g.areaOf(s.Link) {
		g.t.Fatalf("over %d went out %+v: %v", s.Link, p, e)
	}
	return p
}

// short tells an announcement without its body.
func short(x api.Lsa) string {
	switch x.Kind {
	case api.LsaRouter:
		return fmt.Sprintf("router %d/%d #%d age %d", x.Area, x.Origin, x.Seq, x.Age)
	case api.LsaSummary:
		return fmt.Sprintf("summary %d/%d %s #%d age %d", x.Area, x.Origin, pfx.Print(x.Prefix), x.Seq, x.Age)
	}
	return fmt.Sprintf("outer %d %s #%d age %d", x.Origin, pfx.Print(x.Prefix), x.Seq, x.Age)
}

// went asks for the packets that went out, each told in a line.
func (g rig) went(what string, want ...string) {
	g.t.Helper()
	var got []string
	for _, s := range g.Take() {
		switch p := g.decode(s); {
		case p.Kind == api.PktHello:
			got = append(got, fmt.Sprintf("%d hello %d", s.Link, p.Seen))
		case len(p.Lsas) != 1:
			g.t.Errorf("%s: a packet with %d announcements", what, len(p.Lsas))
		default:
			kind := map[int]string{api.PktUpdate: "update", api.PktAck: "ack"}[p.Kind]
			got = append(got, fmt.Sprintf("%d %s %s", s.Link, kind, short(p.Lsas[0])))
		}
	}
	same(g.t, what+": went out", got, want)
}

func (g rig) near(what string, want ...api.Near) {
	g.t.Helper()
	same(g.t, what+": near", g.Near(), want)
}

// keeps asks for what is kept, each told in a line.
func (g rig) keeps(what string, want ...string) {
	g.t.Helper()
	var got []string
	for _, x := range g.List() {
		got = append(got, short(x))
	}
	same(g.t, what+": kept", got, want)
}

// has asks for the body of an announcement, too.
func (g rig) has(what string, want api.Lsa) {
	g.t.Helper()
	for _, x := range g.List() {
		if lsa.Order(x, want) == 0 {
			same(g.t, what, []string{fmt.Sprint(x)}, []string{fmt.Sprint(want)})
			return
		}
	}
	g.t.Errorf("%s: %s is not kept", what, short(want))
}

func (g rig) refuses(what string, got, want api.Errno) {
	g.t.Helper()
	if got != want {
		g.t.Errorf("%s: %v, must be %v", what, got, want)
	}
}

func same[T comparable](t *testing.T, what string, got, want []T) {
	t.Helper()
	if !slices.Equal(got, want) {
		t.Errorf("%s\n%v\nmust be\n%v", what, got, want)
	}
}
