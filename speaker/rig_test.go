package speaker_test

import (
	"fmt"
	"slices"
	"testing"

	"wayfinder/api"
	"wayfinder/policy"
	"wayfinder/speaker"
)

// top is the greatest number of four bytes.
const top = 1<<32 - 1

// The peers of usual, by number.
const (
	inner = iota
	client
	outer
	other
	inner2
	client2
	peers
)

// Next hops that cost something in a rig that is ready, and one that can't be reached.
const (
	near  = 70
	far   = 90
	never = 99
)

var (
	ten    = api.Prefix{Addr: 0x0a000000, Len: 8}
	long   = api.Prefix{Addr: 0x0a000000, Len: 9}
	eleven = api.Prefix{Addr: 0x0b000000, Len: 8}
	every  = api.Prefix{}
)

const text = `
prefixes tens { 10.0.0.0/8 to 8; }
paths four { . * 4 }
policy raise { then pref 300, accept; }
policy shut { then reject; }
policy fall { then pref 300; }
policy tens { if prefix tens then accept; }
policy twice { then prepend 2, accept; }
policy turn { if mark 0:7 then drop 0:7, add 0:8; if path four then med 9; then accept; }
policy hide { if pref = 100 then add 65535:65282, accept; then accept; }
policy inside { then add 65535:65281, accept; }
policy usual { if pref = 100 and length < 3 then accept; }
`

func policies() api.PolicyFile {
	f, err := policy.Parse(text)
	if err != nil {
		panic(err)
	}
	return f
}

func usual() api.SpeakerConfig {
	return api.SpeakerConfig{Domain: 1, Id: 5, Cluster: 6, Addr: 50, Policies: policies(), Peers: []api.SpeakerPeer{
		inner:   {Domain: 1, Id: 7},
		client:  {Domain: 1, Id: 8, Client: true},
		outer:   {Domain: 2, Id: 9},
		other:   {Domain: 3, Id: 10},
		inner2:  {Domain: 1, Id: 11},
		client2: {Domain: 1, Id: 12, Client: true},
	}}
}

// show makes no difference between lists that are empty and that are not there.
func show(a any) string { return fmt.Sprintf("%+v", a) }

// rig is a speaker, and the test that it must not fail.
type rig struct {
	*speaker.Speaker
	t *testing.T
}

func made(t *testing.T, turns ...func(c *api.SpeakerConfig)) rig {
	t.Helper()
	c := usual()
	for _, turn := range turns {
		turn(&c)
	}
	s, e := speaker.New(c)
	if s == nil || e != api.OK {
		t.Fatalf("New %+v: %v %v", c, s, e)
	}
	return rig{s, t}
}

// ready gives a speaker whose peers are up, and which comes to near and far.
func ready(t *testing.T, turns ...func(c *api.SpeakerConfig)) rig {
	t.Helper()
	g := made(t, turns...)
	for n := range peers {
		g.must("Up")(g.Up(n))
	}
	g.must("Costs")(g.Costs([]api.NextCost{{Next: near, Cost: 1}, {Next: far, Cost: 3}}))
	return g
}

func have(peer int, at api.Prefix, r api.Route) api.Told {
	return api.Told{Peer: peer, Message: api.PvMessage{Kind: api.PvUpdate, Have: []api.Prefix{at}, Route: r}}
}

func lost(peer int, at api.Prefix) api.Told {
	return api.Told{Peer: peer, Message: api.PvMessage{Kind: api.PvUpdate, Lost: []api.Prefix{at}}}
}

// must holds a call to what it must tell.
func (g rig) must(what string, want ...api.Told) func([]api.Told, api.Errno) {
	return func(got []api.Told, e api.Errno) {
		g.t.Helper()
		if e != api.OK || show(got) != show(want) {
			g.t.Errorf("%s: it answers %v and tells\n%+v\nand must tell\n%+v", what, e, got, want)
		}
	}
}

// refuses holds a call to an error, and to changing nothing.
func (g rig) refuses(what string, want api.Errno, call func() ([]api.Told, api.Errno)) {
	g.t.Helper()
	before := g.asked()
	got, e := call()
	if e != want || got != nil {
		g.t.Errorf("%s: it answers %v and tells %+v, and must answer %v", what, e, got, want)
	}
	if after := g.asked(); after != before {
		g.t.Errorf("%s: an error has changed\n%s\nto\n%s", what, before, after)
	}
}

// asked tells all that a speaker answers that is only asked.
func (g rig) asked() string { return show(g.Best()) + show(g.Nexts()) }

func told(r api.Route, at ...api.Prefix) api.PvMessage {
	return api.PvMessage{Kind: api.PvUpdate, Have: at, Route: r}
}

func gone(at ...api.Prefix) api.PvMessage { return api.PvMessage{Kind: api.PvUpdate, Lost: at} }

// hears lets a peer tell something; what others are told of it does not matter.
func (g rig) hears(n int, m api.PvMessage) {
	g.t.Helper()
	if _, e := g.Hear(n, m); e != api.OK {
		g.t.Fatalf("Hear of %d %+v: %v", n, m, e)
	}
}

// best holds Best to offers.
func (g rig) best(what string, want ...api.Offer) {
	g.t.Helper()
	if got := g.Best(); show(got) != show(want) {
		g.t.Errorf("%s: the best are\n%+v\nand must be\n%+v", what, got, want)
	}
}

func (g rig) nexts(what string, want ...uint32) {
	g.t.Helper()
	if got := g.Nexts(); !slices.Equal(got, want) {
		g.t.Errorf("%s: the next hops are %v, and must be %v", what, got, want)
	}
}

// many gives prefixes, rising.
func many(from, to int) []api.Prefix {
	var out []api.Prefix
	for i := range to {
		out = append(out, api.Prefix{Addr: uint32(i) << 8, Len: 24})
	}
	return out[from:]
}

func repeated(n, times int) []int { return slices.Repeat([]int{n}, times) }
