package speaker_test

import (
	"math"
	"testing"

	"wayfinder/api"
	"wayfinder/policy"
	"wayfinder/speaker"
)

type turn = func(c *api.SpeakerConfig)

func refusedAs(t *testing.T, what string, want api.Errno, turns ...turn) {
	t.Helper()
	c := usual()
	for _, f := range turns {
		f(&c)
	}
	s, e := speaker.New(c)
	if e != want || (s != nil) != (want == api.OK) {
		t.Errorf("New with %s: %v %v, must be %v", what, s, e, want)
	}
}

func morePeers(c *api.SpeakerConfig) {
	for len(c.Peers) <= api.MaxPeers {
		c.Peers = append(c.Peers, c.Peers[outer])
	}
}

func strangeClient(c *api.SpeakerConfig) { c.Peers[other].Client = true }

func policyTwice(c *api.SpeakerConfig) { c.Policies.Policies[1].Name = "raise" }

func noSuchPolicy(c *api.SpeakerConfig) { c.Peers[inner].In = "nobody" }

func TestL1Numbers(t *testing.T) {
	fields := []struct {
		name  string
		least int
		at    func(c *api.SpeakerConfig) *int
	}{
		{"Domain", 1, func(c *api.SpeakerConfig) *int { return &c.Domain }},
		{"Id", 1, func(c *api.SpeakerConfig) *int { return &c.Id }},
		{"Cluster", 0, func(c *api.SpeakerConfig) *int { return &c.Cluster }},
		{"a peer's Domain", 1, func(c *api.SpeakerConfig) *int { return &c.Peers[other].Domain }},
		{"a peer's Id", 1, func(c *api.SpeakerConfig) *int { return &c.Peers[other].Id }},
	}
	alone := func(c *api.SpeakerConfig) {
		for i := range c.Peers {
			c.Peers[i].Client = false
		}
	}
	for _, f := range fields {
		for _, n := range []int{math.MinInt, -top, -1, f.least - 1, top + 1, 1<<32 + 1, math.MaxInt} {
			refusedAs(t, f.name+" "+show(n), api.ErrRange, alone, func(c *api.SpeakerConfig) { *f.at(c) = n })
		}
		for _, n := range []int{f.least, 1, 77, 65536, 1 << 31, top} {
			refusedAs(t, f.name+" "+show(n), api.OK, alone, func(c *api.SpeakerConfig) { *f.at(c) = n })
		}
	}
}

func TestL1Peers(t *testing.T) {
	refusedAs(t, "17 peers", api.ErrRange, morePeers)
	refusedAs(t, "16 peers", api.OK, morePeers, func(c *api.SpeakerConfig) { c.Peers = c.Peers[:api.MaxPeers] })
	refusedAs(t, "no peers", api.OK, func(c *api.SpeakerConfig) { c.Peers = nil })
	refusedAs(t, "twice the same peer", api.OK, func(c *api.SpeakerConfig) { c.Peers[other] = c.Peers[outer] })
}

func TestL1Clients(t *testing.T) {
	refusedAs(t, "a client of another domain", api.ErrForm, strangeClient)
	refusedAs(t, "clients without a cluster", api.ErrForm, func(c *api.SpeakerConfig) { c.Cluster = 0 })
	refusedAs(t, "neither", api.OK, func(c *api.SpeakerConfig) {
		c.Cluster, c.Peers[client].Client, c.Peers[client2].Client = 0, false, false
	})
}

func TestL1Policies(t *testing.T) {
	of := func(text string) turn {
		return func(c *api.SpeakerConfig) { c.Policies, _ = policy.Parse(text) }
	}
	refusedAs(t, "a name twice", api.ErrTwice, policyTwice)
	refusedAs(t, "a name that is not defined", api.ErrName, of("policy p { then call q; }"))
	refusedAs(t, "a loop", api.ErrLoop, of("policy p { then call p; }"))
	refusedAs(t, "no form", api.ErrForm, func(c *api.SpeakerConfig) { c.Policies.Policies[0].Terms[0].Then = nil })
	refusedAs(t, "no policies", api.OK, of(""))
}

func TestL1Names(t *testing.T) {
	in := func(name string) turn { return func(c *api.SpeakerConfig) { c.Peers[outer].In = name } }
	out := func(name string) turn { return func(c *api.SpeakerConfig) { c.Peers[client2].Out = name } }
	refusedAs(t, "both", api.OK, in("shut"), out("raise"))
	refusedAs(t, "an In that is none", api.ErrName, in("shu"))
	refusedAs(t, "an Out that is none", api.ErrName, out("shutt"))
	refusedAs(t, "the name of a pattern", api.ErrName, in("four"))
	refusedAs(t, "a blank", api.ErrName, out(" "))
}

// TestL1Order: of several errors the first one is answered.
func TestL1Order(t *testing.T) {
	wrong := []struct {
		error api.Errno
		turn  turn
	}{
		{api.ErrRange, func(c *api.SpeakerConfig) { c.Peers[client2].Id = 0 }},
		{api.ErrForm, strangeClient},
		{api.ErrTwice, policyTwice},
		{api.ErrName, noSuchPolicy},
	}
	for i, first := range wrong {
		for _, second := range wrong[i:] {
			refusedAs(t, "two errors", first.error, second.turn, first.turn)
		}
	}
	refusedAs(t, "17 peers and a strange client", api.ErrRange, strangeClient, morePeers)
}

func TestL1AllDown(t *testing.T) {
	g := made(t)
	g.best("at first")
	g.nexts("at first")
	for n := range peers {
		g.refuses("Down", api.ErrState, func() ([]api.Told, api.Errno) { return g.Down(n) })
		g.must("Up")(g.Up(n))
	}
	// There are no costs: what comes in can't be reached, not even at the address 0.
	g.must("Hear")(g.Hear(outer, told(api.Route{Path: []int{2}}, ten)))
	g.best("without costs")
}

// TestL1Inner: who is inner hangs on the domain alone, not on being a client.
func TestL1Inner(t *testing.T) {
	g := ready(t, func(c *api.SpeakerConfig) { c.Peers[outer].Domain = 1 })
	g.hears(outer, told(api.Route{Path: []int{4}, Next: near, Pref: 7}, ten))
	g.best("inner", api.Offer{Route: api.Route{Prefix: ten, Path: []int{4}, Pref: 7, Next: near, Author: 9}, Peer: outer, Inner: true, Cost: 1})
}
