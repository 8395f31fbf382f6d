package speaker_test

import (
	"testing"

	"wayfinder/api"
)

// comes holds what becomes of a route that a peer tells of ten to an offer; to none, if it must be refused.
func comes(t *testing.T, what string, n int, r api.Route, want *api.Offer, turns ...turn) {
	t.Helper()
	g := ready(t, turns...)
	g.hears(n, told(r, ten))
	if want == nil {
		g.best(what)
	} else {
		o := *want
		o.Route.Prefix, o.Peer = ten, n
		g.best(what, o)
	}
	g.nexts(what, r.Next)
}

func TestL4Refused(t *testing.T) {
	refused := func(what string, n int, r api.Route, turns ...turn) {
		t.Helper()
		r.Next = near
		comes(t, what, n, r, nil, turns...)
	}
	taken := func(what string, n int, r api.Route, turns ...turn) {
		t.Helper()
		r.Next = near
		o := api.Offer{Route: r, Inner: n != outer && n != other, Cost: 1}
		if !o.Inner {
			o.Route.Pref, o.Route.Author, o.Route.Clusters = api.UsualPref, 0, nil
		}
		if o.Route.Author == 0 {
			o.Route.Author = usual().Peers[n].Id
		}
		comes(t, what, n, r, &o, turns...)
	}
	for _, n := range []int{inner, client} {
		refused("the own domain is the path", n, api.Route{Path: []int{1}})
		refused("the own domain is last", n, api.Route{Path: []int{4, 5, 1}})
		refused("the own domain is in the midst", n, api.Route{Path: []int{4, 1, 5}})
		refused("the own Id", n, api.Route{Author: 5})
		refused("the own cluster first", n, api.Route{Clusters: []int{6, 7}})
		refused("the own cluster last", n, api.Route{Clusters: []int{8, 7, 6}})
		taken("no path", n, api.Route{})
		taken("another author", n, api.Route{Author: 6, Clusters: []int{5, 1}, Path: []int{6, 5}, Marks: []int{1, 5, 6}})
	}
	refused("no path", outer, api.Route{})
	refused("another domain first", outer, api.Route{Path: []int{4, 2}})
	refused("the domain of another peer first", outer, api.Route{Path: []int{3}})
	refused("the own domain behind the peer's", outer, api.Route{Path: []int{2, 1}})
	refused("the own domain twice", outer, api.Route{Path: []int{2, 4, 1, 1}})
	taken("the peer's domain", outer, api.Route{Path: []int{2}})
	taken("the peer's domain twice, and more", other, api.Route{Path: []int{3, 3, 4, 2}})
	// Author and Clusters of what comes from another domain are nothing.
	taken("the own Id from another domain", outer, api.Route{Path: []int{2}, Author: 5})
	taken("the own cluster from another domain", outer, api.Route{Path: []int{2}, Clusters: []int{6}})
	alone := func(c *api.SpeakerConfig) {
		c.Cluster = 0
		for i := range c.Peers {
			c.Peers[i].Client = false
		}
	}
	taken("0 among the clusters, and no cluster", inner, api.Route{Clusters: []int{0, 3}}, alone)
	refused("the own Id, and no cluster", inner, api.Route{Author: 5}, alone)
}

func TestL4ComesIn(t *testing.T) {
	all := api.Route{Path: []int{2, 4}, Origin: 2, Pref: 7, Med: 8, Next: near, Marks: []int{3, 9}, Clusters: []int{5, 4}, Author: 12}
	same := all
	comes(t, "an inner one", inner, all, &api.Offer{Route: same, Inner: true, Cost: 1})
	comes(t, "a client's", client, all, &api.Offer{Route: same, Inner: true, Cost: 1})
	same.Pref, same.Clusters, same.Author = api.UsualPref, nil, 9
	comes(t, "an outer one", outer, all, &api.Offer{Route: same, Cost: 1})
	all.Author, all.Next = 0, far
	same = all
	same.Author = 7
	comes(t, "an inner one without an author", inner, all, &api.Offer{Route: same, Inner: true, Cost: 3})
	// A preference of 0 is one: an inner one keeps it.
	comes(t, "no preference", client2, api.Route{Next: far}, &api.Offer{Route: api.Route{Next: far, Author: 12}, Inner: true, Cost: 3})
}

func TestL4PolicyIn(t *testing.T) {
	by := func(n int, name string) turn { return func(c *api.SpeakerConfig) { c.Peers[n].In = name } }
	two := api.Route{Path: []int{2, 4}, Pref: 7, Next: near, Marks: []int{7}, Clusters: []int{3}, Author: 4}
	comes(t, "shut", outer, two, nil, by(outer, "shut"))
	comes(t, "nothing said", outer, two, nil, by(outer, "fall"))
	comes(t, "of another peer", outer, two, &api.Offer{Route: api.Route{Path: []int{2, 4}, Pref: api.UsualPref, Next: near, Marks: []int{7}, Author: 9}, Cost: 1}, by(other, "shut"))
	comes(t, "raised", outer, two, &api.Offer{Route: api.Route{Path: []int{2, 4}, Pref: 300, Next: near, Marks: []int{7}, Author: 9}, Cost: 1}, by(outer, "raise"))
	comes(t, "turned", inner, two, &api.Offer{Route: api.Route{Path: []int{2, 4}, Pref: 7, Med: 9, Next: near, Marks: []int{8}, Clusters: []int{3}, Author: 4}, Inner: true, Cost: 1}, by(inner, "turn"))
	// The policy sees the usual preference already, and the prefix.
	comes(t, "usual", outer, two, &api.Offer{Route: api.Route{Path: []int{2, 4}, Pref: api.UsualPref, Next: near, Marks: []int{7}, Author: 9}, Cost: 1}, by(outer, "usual"))
	comes(t, "not usual", inner, two, nil, by(inner, "usual"))
	comes(t, "one of ten", outer, two, &api.Offer{Route: api.Route{Path: []int{2, 4}, Pref: api.UsualPref, Next: near, Marks: []int{7}, Author: 9}, Cost: 1}, by(outer, "tens"))
	// What it prepends is the speaker's domain, which is not looked for any more.
	comes(t, "prepended", outer, two, &api.Offer{Route: api.Route{Path: []int{1, 1, 2, 4}, Pref: api.UsualPref, Next: near, Marks: []int{7}, Author: 9}, Cost: 1}, by(outer, "twice"))
	g := ready(t, by(outer, "tens"))
	g.hears(outer, told(two, ten, long, eleven))
	g.best("each prefix by itself", api.Offer{Route: api.Route{Prefix: ten, Path: []int{2, 4}, Pref: api.UsualPref, Next: near, Marks: []int{7}, Author: 9}, Peer: outer, Cost: 1})
	// The policy does not run for own routes.
	g = ready(t, by(inner, "shut"), by(outer, "shut"))
	g.Own([]api.Route{{Prefix: ten}})
	g.best("own", api.Offer{Route: api.Route{Prefix: ten, Next: 50, Author: 5}, Peer: -1})
}

// TestL4Replaced: a route that is refused stands in the place of the one that the peer told ahead of it.
func TestL4Replaced(t *testing.T) {
	g := ready(t)
	g.hears(outer, told(api.Route{Path: []int{2}, Next: near}, ten))
	g.hears(outer, told(api.Route{Path: []int{2, 1}, Next: far}, ten))
	g.best("refused")
	g.nexts("refused", far)
}

// TestL4Own: an own route need not come in, whatever it tells.
func TestL4Own(t *testing.T) {
	g := ready(t)
	g.must("with nobody to tell")(g.Own([]api.Route{{Prefix: ten, Path: []int{1, 4}, Author: 5, Clusters: []int{6}, Marks: []int{api.MarkHere}, Next: never}}))
	g.best("own", api.Offer{Route: api.Route{Prefix: ten, Path: []int{1, 4}, Next: 50, Marks: []int{api.MarkHere}, Clusters: []int{6}, Author: 5}, Peer: -1})
	// Its cost is 0, whatever is said of the speaker's address.
	g.Costs([]api.NextCost{{Next: 50, Cost: 8}})
	if got := g.Best(); len(got) != 1 || got[0].Cost != 0 {
		t.Errorf("the best are %+v", got)
	}
}

// TestL5Best: of several offers the best one, as layer 9 says.
func TestL5Best(t *testing.T) {
	who := func(what string, want int, tell func(g rig)) {
		t.Helper()
		g := ready(t)
		tell(g)
		if got := g.Best(); len(got) != 1 || got[0].Peer != want {
			t.Errorf("%s: %+v, must be of %d", what, got, want)
		}
	}
	says := func(g rig, n int, r api.Route) { g.hears(n, told(r, ten)) }
	who("the greatest preference", inner, func(g rig) {
		says(g, inner, api.Route{Path: []int{4, 4, 4}, Pref: 101, Next: far})
		says(g, outer, api.Route{Path: []int{2}, Next: near})
	})
	who("the shortest path", other, func(g rig) {
		says(g, outer, api.Route{Path: []int{2, 2}, Next: near})
		says(g, other, api.Route{Path: []int{3}, Next: far})
	})
	who("an own one has no preference of itself", outer, func(g rig) {
		g.Own([]api.Route{{Prefix: ten}})
		says(g, outer, api.Route{Path: []int{2, 2}, Next: near})
	})
	who("an own one that is preferred", -1, func(g rig) {
		g.Own([]api.Route{{Prefix: ten, Pref: api.UsualPref}})
		says(g, outer, api.Route{Path: []int{2}, Next: near})
	})
	who("an outer one ahead of an inner one", outer, func(g rig) {
		says(g, inner, api.Route{Path: []int{4}, Pref: api.UsualPref, Next: near})
		says(g, outer, api.Route{Path: []int{2}, Next: far})
	})
	who("the least author", inner2, func(g rig) {
		says(g, inner, api.Route{Path: []int{4}, Next: near})
		says(g, inner2, api.Route{Path: []int{4}, Next: near, Author: 3})
	})
	who("the peer's Id stands for the author", client, func(g rig) {
		says(g, client, api.Route{Path: []int{4}, Next: near})
		says(g, inner, api.Route{Path: []int{4}, Next: near, Author: 9})
	})
	who("the least peer", inner, func(g rig) {
		says(g, client, api.Route{Path: []int{4}, Next: near, Author: 3})
		says(g, inner, api.Route{Path: []int{4}, Next: near, Author: 3})
	})
	who("what can be reached", other, func(g rig) {
		says(g, outer, api.Route{Path: []int{2}, Next: never})
		says(g, other, api.Route{Path: []int{3, 3, 3}, Next: far})
	})
	// One that is struck out itself decides by its Med which one is taken.
	who("the lesser Med of one neighbour", other, func(g rig) {
		says(g, inner, api.Route{Path: []int{2}, Pref: api.UsualPref, Med: 1, Next: far})
		says(g, outer, api.Route{Path: []int{2}, Med: 2, Next: near})
		says(g, other, api.Route{Path: []int{3}, Med: 3, Next: far})
	})
}

func TestL5Rising(t *testing.T) {
	g := ready(t)
	last := api.Prefix{Addr: 0xffffffff, Len: 32}
	g.hears(other, told(api.Route{Path: []int{3}, Next: near}, long, last))
	g.hears(outer, told(api.Route{Path: []int{2}, Next: near}, ten))
	g.Own([]api.Route{{Prefix: eleven}, {Prefix: every}, {Prefix: api.Prefix{Len: 1}}})
	want := []api.Prefix{every, {Len: 1}, ten, long, eleven, last}
	var got []api.Prefix
	for _, o := range g.Best() {
		got = append(got, o.Route.Prefix)
	}
	if show(got) != show(want) {
		t.Errorf("the best stand in the order %v, must be %v", got, want)
	}
}

// TestL5Nexts: of all that peers tell, refused or not, reached or not; own ones are not told by a peer.
func TestL5Nexts(t *testing.T) {
	g := ready(t, func(c *api.SpeakerConfig) { c.Peers[other].In = "shut" })
	g.nexts("at first")
	g.Own([]api.Route{{Prefix: every, Next: 1}})
	g.nexts("own")
	g.hears(outer, told(api.Route{Path: []int{2}, Next: far}, ten, long))
	g.hears(inner, told(api.Route{Next: top}, eleven))
	g.hears(client, told(api.Route{Next: never}, ten))
	g.hears(other, told(api.Route{Path: []int{3}, Next: 3}, ten))
	g.hears(client2, told(api.Route{Path: []int{1}, Next: 0}, ten))
	g.nexts("all", 0, 3, far, never, top)
	g.hears(client, told(api.Route{Next: far}, ten))
	g.nexts("one is told otherwise", 0, 3, far, top)
	g.hears(outer, gone(ten, long))
	g.nexts("another one tells it still", 0, 3, far, top)
	g.Down(client)
	g.nexts("nobody tells it", 0, 3, top)
}
