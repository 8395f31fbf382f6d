package router_test

import (
	"math"
	"testing"

	"wayfinder/api"
	"wayfinder/router"
)

// fault is something wrong in a config, and what New says of it.
type fault struct {
	name string
	turn func(c *api.RouterConfig)
	want api.Errno
}

// faults stand in the order in which the document names them.
func faults() []fault {
	return []fault{
		{"lsr", func(c *api.RouterConfig) { c.Lsr.Stubs[0].Area = 4 }, api.ErrNone},
		{"the speaker", func(c *api.RouterConfig) { c.Speaker.Peers[0].In = "unknown" }, api.ErrName},
		{"more peers", func(c *api.RouterConfig) { c.Peers = append(c.Peers, api.RouterPeer{Link: 9}) }, api.ErrForm},
		{"a hold of the first", func(c *api.RouterConfig) { c.Peers[0].Hold = 2 }, api.ErrRange},
		{"a link twice", func(c *api.RouterConfig) { c.Peers[1].Link = c.Peers[0].Link }, api.ErrTwice},
		{"a link of the last", func(c *api.RouterConfig) { c.Peers[2].Link = -1 }, api.ErrRange},
		{"fixed", func(c *api.RouterConfig) { c.Fixed[1].Prefix.Len = 9 }, api.ErrBits},
		{"own", func(c *api.RouterConfig) { c.Own[0].Marks = []int{2, 1} }, api.ErrForm},
	}
}

func refused(t *testing.T, what string, want api.Errno, turns ...func(c *api.RouterConfig)) {
	t.Helper()
	c := usual()
	for _, turn := range turns {
		turn(&c)
	}
	if r, e := router.New(c); r != nil || e != want {
		t.Errorf("%s: %v, %v, must be refused with %v", what, r != nil, e, want)
	}
	begin(t, c)
}

func TestN1RefusesTheFirst(t *testing.T) {
	l := faults()
	for i, f := range l {
		refused(t, f.name, f.want, f.turn)
		for _, g := range l[i+1:] {
			refused(t, f.name+", "+g.name, f.want, g.turn, f.turn)
		}
	}
}

// TestN1Lsr, and those below: what New says is what the layer says.
func TestN1Lsr(t *testing.T) {
	refused(t, "a number", api.ErrRange, func(c *api.RouterConfig) { c.Lsr.ID = 1 << 32 })
	refused(t, "a link", api.ErrRange, func(c *api.RouterConfig) { c.Lsr.Ports[0].Link = 65536 })
	refused(t, "a link twice", api.ErrTwice, func(c *api.RouterConfig) { c.Lsr.Ports[0].Link = bothLink })
	refused(t, "many ports", api.ErrFull, func(c *api.RouterConfig) { c.Lsr.Ports = make([]api.LsrPort, 65) })
	refused(t, "a stub", api.ErrBits, func(c *api.RouterConfig) { c.Lsr.Stubs[0].Prefix.Len = 8 })
}

func TestN1Speaker(t *testing.T) {
	refused(t, "a domain", api.ErrRange, func(c *api.RouterConfig) { c.Speaker.Domain = 0 })
	refused(t, "an id of a peer", api.ErrRange, func(c *api.RouterConfig) { c.Speaker.Peers[2].Id = 0 })
	refused(t, "a client", api.ErrForm, func(c *api.RouterConfig) { c.Speaker.Peers[2].Client = true })
	refused(t, "a policy twice", api.ErrTwice, func(c *api.RouterConfig) {
		c.Speaker.Policies.Policies = []api.Policy{{Name: "p"}, {Name: "p"}}
	})
}

func TestN1Peers(t *testing.T) {
	refused(t, "fewer", api.ErrForm, func(c *api.RouterConfig) { c.Peers = c.Peers[:2] })
	refused(t, "none", api.ErrForm, func(c *api.RouterConfig) { c.Peers = nil })
	refused(t, "none of the speaker's", api.ErrForm, func(c *api.RouterConfig) { c.Speaker.Peers = nil })
	for _, link := range []int{math.MinInt, -1, 65536, 1 << 32, math.MaxInt} {
		refused(t, "a link", api.ErrRange, func(c *api.RouterConfig) { c.Peers[1].Link = link })
		refused(t, "a link, twice", api.ErrRange, func(c *api.RouterConfig) { c.Peers[1].Link, c.Peers[2].Link = link, link })
	}
	for _, hold := range []int{math.MinInt, -1, 1, 2, 65536, math.MaxInt} {
		refused(t, "a hold", api.ErrRange, func(c *api.RouterConfig) { c.Peers[2].Hold = hold })
		refused(t, "a link twice, and a hold", api.ErrTwice, func(c *api.RouterConfig) { c.Peers[2] = api.RouterPeer{Link: bothLink, Hold: hold} })
	}
	refused(t, "a hold, and a link twice", api.ErrRange, func(c *api.RouterConfig) { c.Peers[1].Hold, c.Peers[2].Link = 1, bothLink })
}

func TestN1FixedAndOwn(t *testing.T) {
	refused(t, "a fixed one twice", api.ErrTwice, func(c *api.RouterConfig) { c.Fixed[1].Prefix = c.Fixed[0].Prefix })
	refused(t, "a fixed link", api.ErrRange, func(c *api.RouterConfig) { c.Fixed[1].Links = []int{65536} })
	refused(t, "fixed, with both", api.ErrForm, func(c *api.RouterConfig) { c.Fixed[1].Next = 1 })
	refused(t, "many fixed", api.ErrFull, func(c *api.RouterConfig) { c.Fixed = make([]api.Fixed, api.MaxRows+1) })
	refused(t, "an own prefix", api.ErrBits, func(c *api.RouterConfig) { c.Own[0].Prefix.Len = 40 })
	refused(t, "own twice", api.ErrTwice, func(c *api.RouterConfig) { c.Own = append(c.Own, c.Own[0]) })
	refused(t, "an origin", api.ErrRange, func(c *api.RouterConfig) { c.Own[0].Origin = 3 })
}

func TestN1Edges(t *testing.T) {
	for _, hold := range []int{0, 3, 65535} {
		made(t, func(c *api.RouterConfig) {
			c.Peers[0], c.Peers[1] = api.RouterPeer{Link: 0, Hold: hold}, api.RouterPeer{Link: 65535, Hold: hold}
		})
	}
	// One that has nothing but a number and a domain.
	g := rig{pair: begin(t, api.RouterConfig{Lsr: api.LsrConfig{ID: 1}, Speaker: api.SpeakerConfig{Domain: 1, Id: 1}})}
	g.ok(g.send(1, nil))
	g.tick()
	g.refuses("no interface", api.ErrNone, func() api.Errno { return g.up(0) })
	g.came("nothing")
	g.went("nothing")
}

// TestN1Begins: all is down, and a turn was made.
func TestN1Begins(t *testing.T) {
	g := made(t, func(c *api.RouterConfig) {
		c.Fixed = append(c.Fixed, api.Fixed{Prefix: eleven, Links: []int{portLink}}, api.Fixed{Prefix: twelve, Next: 5})
	})
	for n := range g.c.Peers {
		if state := g.is.State(n); state != api.SessionIdle {
			t.Errorf("session %d stands at %d", n, state)
		}
	}
	for _, link := range []int{portLink, bothLink, peerLink, lastLink} {
		g.refuses("it is down", api.ErrState, func() api.Errno { return g.down(link) })
		g.refuses("it is down", api.ErrState, func() api.Errno { return g.receive(link, data(0x0a050001, 3, "x")) })
	}
	g.went("at the beginning")
	want := []api.Row{
		{Prefix: pre(5, 32), Kind: api.RowLocal}, {Prefix: pre(70, 32), Kind: api.RowFixed, Links: []int{lastLink}},
		{Prefix: pre(80, 32), Kind: api.RowFixed, Links: []int{peerLink}}, {Prefix: pre(90, 32), Kind: api.RowFixed, Links: []int{bothLink}},
		{Prefix: stub, Kind: api.RowLocal}, {Prefix: eleven, Kind: api.RowFixed, Links: []int{portLink}},
	}
	same(t, "the rows", g.is.Rows(), want, sameRow)
	g.ok(g.send(5, []byte("here")))
	g.came("at the beginning", `0.0.0.5 "here"`)
	// Its time is 0: two ticks bring no hello, the third does.
	g.ok(g.up(portLink))
	g.went("up", "0 hello 0")
	g.tick()
	g.tick()
	g.went("two ticks")
	g.tick()
	g.went("three ticks", "0 hello 0")
}
