package router_test

import (
	"fmt"
	"slices"
	"strings"
	"testing"

	"wayfinder/api"
	"wayfinder/lsa"
	"wayfinder/pfx"
	"wayfinder/pv"
)

func pre(a uint32, n int) api.Prefix { return api.Prefix{Addr: a, Len: n} }

var (
	stub     = pre(0x0a050000, 16)
	eleven   = pre(0x0b000000, 8)
	twelve   = pre(0x0c000000, 8)
	thirteen = pre(0x0d000000, 8)
	fourteen = pre(0x0e000000, 8)
)

// The interfaces of usual: a port, a port over which a session runs, two over which only sessions do; and one that there is not.
const (
	portLink = 0
	bothLink = 1
	peerLink = 7
	lastLink = 8
	noLink   = 9
)

// links gives the link of each peer of usual.
var links = []int{bothLink, peerLink, lastLink}

// nexts gives an address that leads to each peer of usual.
var nexts = []uint32{90, 80, 70}

func usual() api.RouterConfig {
	return api.RouterConfig{
		Lsr: api.LsrConfig{ID: 5, Ports: []api.LsrPort{{Link: portLink, Cost: 1}, {Link: bothLink, Cost: 2}}, Stubs: []api.LsrStub{{Prefix: stub}}},
		Speaker: api.SpeakerConfig{Domain: 1, Id: 5, Addr: 50, Peers: []api.SpeakerPeer{
			{Domain: 2, Id: 9}, {Domain: 3, Id: 8}, {Domain: 4, Id: 7},
		}},
		Peers: []api.RouterPeer{{Link: bothLink, Hold: 30}, {Link: peerLink}, {Link: lastLink, Hold: 9}},
		Fixed: []api.Fixed{
			{Prefix: pre(90, 32), Links: []int{bothLink}}, {Prefix: pre(80, 32), Links: []int{peerLink}}, {Prefix: pre(70, 32), Links: []int{lastLink}},
		},
		Own: []api.Route{{Prefix: stub}},
	}
}

// rig is a router of usual, mostly.
type rig struct {
	*pair
	c api.RouterConfig
}

func made(t *testing.T, turns ...func(c *api.RouterConfig)) rig {
	t.Helper()
	c := usual()
	for _, turn := range turns {
		turn(&c)
	}
	p := begin(t, c)
	if p == nil {
		t.Fatalf("it is refused: %+v", c)
	}
	return rig{p, c}
}

// ready gives one whose interfaces and sessions are up, and of which all that went out was taken.
func ready(t *testing.T, turns ...func(c *api.RouterConfig)) rig {
	t.Helper()
	g := made(t, turns...)
	g.ok(g.up(portLink))
	for i := range g.c.Peers {
		g.ok(g.up(g.c.Peers[i].Link))
		g.open(i)
	}
	g.take()
	return g
}

func (g rig) ok(e api.Errno) {
	g.t.Helper()
	if e != api.OK {
		g.t.Fatal(e)
	}
}

// open lets the session of a peer come up.
func (g rig) open(n int) {
	g.t.Helper()
	g.says(n, openOf(g.c, n), alive)
	if state := g.is.State(n); state != api.SessionUp {
		g.t.Fatalf("session %d stands at %d", n, state)
	}
}

// openOf gives what the other end of a session opens with.
func openOf(c api.RouterConfig, n int) api.PvMessage {
	return api.PvMessage{Kind: api.PvOpen, Domain: c.Speaker.Peers[n].Domain, Id: c.Speaker.Peers[n].Id, Hold: c.Peers[n].Hold}
}

var alive = api.PvMessage{Kind: api.PvAlive}

// have gives an update of peer n of usual, whose path goes on over the domains behind.
func have(n int, behind []int, l ...api.Prefix) api.PvMessage {
	return api.PvMessage{Kind: api.PvUpdate, Have: l, Route: api.Route{Path: append([]int{n + 2}, behind...), Next: nexts[n]}}
}

func lost(l ...api.Prefix) api.PvMessage { return api.PvMessage{Kind: api.PvUpdate, Lost: l} }

// frameOf gives messages as one frame.
func frameOf(messages ...api.PvMessage) []byte {
	f := []byte{api.FramePeer}
	for _, m := range messages {
		b, e := pv.Encode(m)
		if e != api.OK {
			panic(e)
		}
		f = append(f, b...)
	}
	return f
}

// says lets peer n say messages, in one frame.
func (g rig) says(n int, messages ...api.PvMessage) {
	g.t.Helper()
	g.ok(g.receive(g.c.Peers[n].Link, frameOf(messages...)))
}

// packet gives a packet as a frame.
func packet(p api.Packet) []byte {
	b, e := lsa.Encode(p)
	if e != api.OK {
		panic(e)
	}
	return append([]byte{api.FrameLsr}, b...)
}

// hello and ofNine are what router 9 says of itself over a port of router 5.
func hello() []byte { return packet(api.Packet{Kind: api.PktHello, From: 9, Seen: 5}) }

func ofNine(seq int, stubs ...api.LsStub) []byte {
	x := api.Lsa{Kind: api.LsaRouter, Origin: 9, Seq: seq, Links: []api.LsLink{{To: 5, Cost: 4, Link: 3}}, Stubs: append([]api.LsStub{{Prefix: pre(9, 32)}}, stubs...)}
	return packet(api.Packet{Kind: api.PktUpdate, From: 9, Lsas: []api.Lsa{x}})
}

// data gives a frame of data.
func data(to uint32, times int, text string) []byte {
	return append([]byte{api.FrameData, byte(to >> 24), byte(to >> 16), byte(to >> 8), byte(to), byte(times)}, text...)
}

// line tells a frame in words.
func (g rig) line(s api.Sent) string {
	g.t.Helper()
	rest := s.Bytes[1:]
	words := []string{fmt.Sprint(s.Link)}
	switch s.Bytes[0] {
	case api.FrameLsr:
		p, e := lsa.Decode(rest)
		if e != api.OK {
			g.t.Fatalf("a packet of %x: %v", rest, e)
		}
		words = append(words, packetWords(p)...)
	case api.FramePeer:
		l, e := pv.NewStream().Take(rest)
		if e != api.OK || len(l) == 0 {
			g.t.Fatalf("messages of %x: %v", rest, e)
		}
		for _, m := range l {
			words = append(words, messageWords(m)...)
		}
	case api.FrameData:
		to := uint32(rest[0])<<24 | uint32(rest[1])<<16 | uint32(rest[2])<<8 | uint32(rest[3])
		words = append(words, "data", pfx.PrintAddr(to), fmt.Sprint(rest[4]), fmt.Sprintf("%q", rest[5:]))
	default:
		g.t.Fatalf("a frame of no kind: %x", s.Bytes)
	}
	return strings.Join(words, " ")
}

func packetWords(p api.Packet) []string {
	if p.Kind == api.PktHello {
		return []string{"hello", fmt.Sprint(p.Seen)}
	}
	words := []string{map[int]string{api.PktUpdate: "update", api.PktAck: "ack"}[p.Kind]}
	for _, x := range p.Lsas {
		words = append(words, fmt.Sprintf("of %d", x.Origin))
	}
	return words
}

func messageWords(m api.PvMessage) []string {
	switch m.Kind {
	case api.PvOpen:
		return []string{"open", fmt.Sprint(m.Domain, m.Id, m.Hold)}
	case api.PvAlive:
		return []string{"alive"}
	case api.PvNotice:
		return []string{"notice", fmt.Sprint(m.Code)}
	}
	var words []string
	for _, at := range m.Lost {
		words = append(words, "lost", pfx.Print(at))
	}
	for _, at := range m.Have {
		words = append(words, "have", pfx.Print(at), fmt.Sprint(m.Route.Path), fmt.Sprint(m.Route.Next))
	}
	return words
}

// went holds what went out since it was asked last to lines.
func (g rig) went(what string, want ...string) {
	g.t.Helper()
	var got []string
	for _, s := range g.take() {
		got = append(got, g.line(s))
	}
	if !slices.Equal(got, want) {
		g.t.Errorf("%s: went out\n%s\nmust be\n%s", what, strings.Join(got, "\n"), strings.Join(want, "\n"))
	}
}

// came holds what has come since it was asked last to lines.
func (g rig) came(what string, want ...string) {
	g.t.Helper()
	var got []string
	for _, a := range g.arrived() {
		got = append(got, fmt.Sprintf("%s %q", pfx.PrintAddr(a.To), a.Bytes))
	}
	if !slices.Equal(got, want) {
		g.t.Errorf("%s: there came\n%s\nmust be\n%s", what, strings.Join(got, "\n"), strings.Join(want, "\n"))
	}
}

// rows holds the rows, but those that usual has at its beginning, to lines.
func (g rig) rows(what string, want ...string) {
	g.t.Helper()
	var got []string
	for _, r := range g.is.Rows() {
		if !slices.Contains([]api.Prefix{pre(5, 32), pre(70, 32), pre(80, 32), pre(90, 32), stub}, r.Prefix) {
			got = append(got, fmt.Sprint(pfx.Print(r.Prefix), " ", r.Kind, " ", r.Cost, " ", r.Links))
		}
	}
	if !slices.Equal(got, want) {
		g.t.Errorf("%s: the rows are\n%s\nmust be\n%s", what, strings.Join(got, "\n"), strings.Join(want, "\n"))
	}
}

// refuses holds a call to an error, and to changing nothing.
func (g rig) refuses(what string, want api.Errno, call func() api.Errno) {
	g.t.Helper()
	before := g.whole()
	if e := call(); e != want {
		g.t.Errorf("%s: %v, must be %v", what, e, want)
	}
	if after := g.whole(); after != before {
		g.t.Errorf("%s: it is\n%s\nand was\n%s", what, after, before)
	}
}

// whole tells all that may be seen of a router.
func (g rig) whole() string {
	out := show(g.is.Rows())
	for n := range g.c.Peers {
		out += fmt.Sprint(" ", g.is.State(n))
	}
	return out + show(g.sent) + show(g.come)
}
