package speaker_test

import (
	"math"
	"testing"

	"wayfinder/api"
)

func TestL2NoSuchPeer(t *testing.T) {
	g := ready(t)
	for _, n := range []int{math.MinInt, -1, peers, peers + 1, math.MaxInt} {
		g.refuses("Up", api.ErrNone, func() ([]api.Told, api.Errno) { return g.Up(n) })
		g.refuses("Down", api.ErrNone, func() ([]api.Told, api.Errno) { return g.Down(n) })
		g.refuses("Hear", api.ErrNone, func() ([]api.Told, api.Errno) { return g.Hear(n, api.PvMessage{Kind: 9}) })
	}
}

func TestL2UpAndDown(t *testing.T) {
	g := made(t)
	for range 3 {
		g.refuses("Down", api.ErrState, func() ([]api.Told, api.Errno) { return g.Down(outer) })
		g.refuses("Hear", api.ErrState, func() ([]api.Told, api.Errno) { return g.Hear(outer, api.PvMessage{Kind: 9}) })
		g.must("Up")(g.Up(outer))
		g.refuses("Up", api.ErrState, func() ([]api.Told, api.Errno) { return g.Up(outer) })
		g.must("Hear")(g.Hear(outer, api.PvMessage{Kind: api.PvUpdate}))
		g.refuses("Hear of another one", api.ErrState, func() ([]api.Told, api.Errno) { return g.Hear(other, gone(ten)) })
		g.must("Down")(g.Down(outer))
	}
}

// TestL2HearRefuses: the errors in their order; what was told ahead of them stands.
func TestL2HearRefuses(t *testing.T) {
	g := ready(t)
	g.hears(outer, told(api.Route{Path: []int{2}, Next: near}, ten, eleven))
	full := many(0, api.MaxTold+1)
	wrong := []struct {
		what  string
		error api.Errno
		m     api.PvMessage
	}{
		{"nothing", api.ErrKind, api.PvMessage{}},
		{"an alive", api.ErrKind, api.PvMessage{Kind: api.PvAlive}},
		{"an open", api.ErrKind, api.PvMessage{Kind: api.PvOpen, Domain: 2, Id: 9}},
		{"a notice", api.ErrKind, api.PvMessage{Kind: api.PvNotice, Code: 6}},
		{"no kind, and no prefix", api.ErrKind, api.PvMessage{Kind: 9, Lost: []api.Prefix{{Addr: 1}}}},
		{"a code", api.ErrForm, api.PvMessage{Kind: api.PvUpdate, Code: 1, Lost: []api.Prefix{ten}}},
		{"a route's prefix", api.ErrForm, told(api.Route{Prefix: ten}, ten)},
		{"no prefix", api.ErrBits, gone(api.Prefix{Addr: 1})},
		{"falling", api.ErrTwice, gone(eleven, ten)},
		{"lost and there", api.ErrTwice, api.PvMessage{Kind: api.PvUpdate, Lost: []api.Prefix{ten}, Have: []api.Prefix{ten}}},
		{"an origin", api.ErrRange, told(api.Route{Origin: 3}, ten)},
		{"marks that fall", api.ErrForm, told(api.Route{Marks: []int{2, 1}}, ten)},
		{"too many, falling", api.ErrTwice, told(api.Route{}, append(full, ten, ten)...)},
		{"too long, and too many", api.ErrLong, told(api.Route{}, full...)},
	}
	for _, w := range wrong {
		g.refuses(w.what, w.error, func() ([]api.Told, api.Errno) { return g.Hear(outer, w.m) })
	}
}

// TestL2Full: what counts is of how many prefixes the peer tells behind the update, refused routes and all; each peer by itself.
func TestL2Full(t *testing.T) {
	g := ready(t)
	all := many(0, api.MaxTold+20)
	refused := api.Route{Path: []int{1}}
	fine := api.Route{Path: []int{2}, Next: near}
	g.hears(outer, told(refused, all[:100]...))
	g.hears(outer, told(fine, all[100:200]...))
	g.refuses("57 more", api.ErrFull, func() ([]api.Told, api.Errno) { return g.Hear(outer, told(fine, all[200:257]...)) })
	g.hears(outer, told(fine, all[200:256]...))
	g.refuses("one more", api.ErrFull, func() ([]api.Told, api.Errno) { return g.Hear(outer, told(refused, all[256])) })
	g.hears(outer, told(fine, all[50:256]...))
	swap := func(lost, have []api.Prefix) api.PvMessage {
		return api.PvMessage{Kind: api.PvUpdate, Lost: lost, Have: have, Route: fine}
	}
	g.refuses("two for one", api.ErrFull, func() ([]api.Told, api.Errno) { return g.Hear(outer, swap(all[:1], all[256:258])) })
	g.refuses("one for one that it does not tell", api.ErrFull, func() ([]api.Told, api.Errno) { return g.Hear(outer, swap(all[260:261], all[256:257])) })
	g.hears(outer, swap(all[:1], all[256:257]))
	g.refuses("that one again", api.ErrFull, func() ([]api.Told, api.Errno) { return g.Hear(outer, told(fine, all[0])) })
	g.hears(other, told(api.Route{Path: []int{3}, Next: near}, all[:200]...))
	g.hears(outer, gone(all[1]))
	g.hears(outer, told(fine, all[0]))
	if got := len(g.Best()); got != 257 {
		t.Errorf("of %d there is a best one, must be 257: 200 of the other, and 57 more", got)
	}
	g.Down(outer)
	g.Up(outer)
	g.hears(outer, told(fine, all[:200]...))
	g.hears(outer, told(fine, all[200:256]...))
}

func TestL2LostAndHave(t *testing.T) {
	g := ready(t)
	offer := func(at api.Prefix, med int) api.Offer {
		return api.Offer{Route: api.Route{Prefix: at, Path: []int{2}, Pref: api.UsualPref, Med: med, Next: near, Author: 9}, Peer: outer, Cost: 1}
	}
	g.hears(outer, told(api.Route{Path: []int{2}, Med: 4, Next: near}, ten, long))
	g.best("two", offer(ten, 4), offer(long, 4))
	g.hears(outer, api.PvMessage{Kind: api.PvUpdate, Lost: []api.Prefix{ten}, Have: []api.Prefix{long, eleven}, Route: api.Route{Path: []int{2}, Med: 6, Next: near}})
	g.best("one is lost, one is other, one is new", offer(long, 6), offer(eleven, 6))
	g.hears(outer, gone(every, ten))
	g.best("lost that is not told", offer(long, 6), offer(eleven, 6))
	g.hears(other, gone(long, eleven))
	g.best("lost by another one", offer(long, 6), offer(eleven, 6))
	g.hears(outer, gone(long, eleven))
	g.best("all lost")
	g.nexts("all lost")
}

func TestL2Down(t *testing.T) {
	g := ready(t)
	g.hears(outer, told(api.Route{Path: []int{2}, Next: near}, ten))
	g.hears(other, told(api.Route{Path: []int{3, 3}, Next: far}, ten))
	second := api.Route{Path: []int{3, 3}, Pref: api.UsualPref, Next: far}
	g.must("Down", have(inner, ten, second), have(client, ten, second), lost(other, ten), have(inner2, ten, second), have(client2, ten, second))(g.Down(outer))
	g.nexts("Down", far)
	// Nothing is told to who is down; when it is up again, it is told all, and what it told is forgotten.
	fromUs := api.Route{Path: []int{1, 3, 3}, Next: 50}
	g.must("Up", have(outer, ten, fromUs))(g.Up(outer))
	g.must("Down")(g.Down(outer))
	g.must("Down", lost(inner, ten), lost(client, ten), lost(inner2, ten), lost(client2, ten))(g.Down(other))
	g.must("Up")(g.Up(outer))
	g.best("nothing is left")
	g.nexts("nothing is left")
}

func TestL3Own(t *testing.T) {
	g := ready(t)
	own := api.Route{Prefix: ten, Path: []int{8}, Origin: 1, Pref: 2, Med: 3, Next: never, Marks: []int{4}, Clusters: []int{5, 6}, Author: 77}
	in := api.Route{Path: []int{8}, Origin: 1, Pref: 2, Med: 3, Next: 50, Marks: []int{4}}
	out := api.Route{Path: []int{1, 8}, Origin: 1, Next: 50, Marks: []int{4}}
	g.must("Own", have(inner, ten, in), have(client, ten, in), have(outer, ten, out), have(other, ten, out), have(inner2, ten, in), have(client2, ten, in))(g.Own([]api.Route{own}))
	g.best("Own", api.Offer{Route: api.Route{Prefix: ten, Path: []int{8}, Origin: 1, Pref: 2, Med: 3, Next: 50, Marks: []int{4}, Clusters: []int{5, 6}, Author: 5}, Peer: -1})
	g.nexts("no peer tells it")
	g.must("the same")(g.Own([]api.Route{own}))
	bare, bareOut := api.Route{Next: 50}, api.Route{Path: []int{1}, Next: 50}
	g.must("another one, and no others",
		have(inner, every, bare), lost(inner, ten), have(client, every, bare), lost(client, ten),
		have(outer, every, bareOut), lost(outer, ten), have(other, every, bareOut), lost(other, ten),
		have(inner2, every, bare), lost(inner2, ten), have(client2, every, bare), lost(client2, ten))(g.Own([]api.Route{{}}))
	g.best("another one", api.Offer{Route: api.Route{Next: 50, Author: 5}, Peer: -1})
	g.must("none", lost(inner, every), lost(client, every), lost(outer, every), lost(other, every), lost(inner2, every), lost(client2, every))(g.Own(nil))
	g.best("none")
}

func TestL3OwnRefuses(t *testing.T) {
	g := ready(t)
	g.must("with nobody up")(made(t).Own([]api.Route{{Prefix: ten}}))
	g.Own([]api.Route{{Prefix: long, Med: 7}})
	wrong := []struct {
		what  string
		error api.Errno
		l     []api.Route
	}{
		{"bits behind the length", api.ErrBits, []api.Route{{Prefix: api.Prefix{Addr: 1, Len: 31}}}},
		{"a length", api.ErrBits, []api.Route{{Prefix: api.Prefix{Len: 33}}}},
		{"no prefix, behind one twice and an origin", api.ErrBits, []api.Route{{Origin: 3}, {}, {Prefix: api.Prefix{Len: -1}}}},
		{"twice", api.ErrTwice, []api.Route{{Prefix: ten}, {Prefix: eleven}, {Prefix: ten, Med: 1}}},
		{"an origin, and twice behind it", api.ErrTwice, []api.Route{{Origin: 3}, {Prefix: ten}, {Prefix: ten}}},
		{"an origin", api.ErrRange, []api.Route{{Origin: 3}}},
		{"a path", api.ErrRange, []api.Route{{Path: []int{0}}}},
		{"a long path", api.ErrRange, []api.Route{{Path: repeated(4, api.MaxPath+1)}}},
		{"a preference", api.ErrRange, []api.Route{{Prefix: ten}, {Pref: -1}}},
		{"an author", api.ErrRange, []api.Route{{Author: top + 1}}},
		{"marks that fall", api.ErrForm, []api.Route{{Marks: []int{2, 1}}}},
		{"the first of two", api.ErrForm, []api.Route{{Prefix: eleven}, {Prefix: ten, Marks: []int{1, 1}}, {Origin: 3}}},
		{"the first of two, the other way round", api.ErrRange, []api.Route{{Origin: 3}, {Prefix: ten, Marks: []int{1, 1}}}},
	}
	for _, w := range wrong {
		g.refuses(w.what, w.error, func() ([]api.Told, api.Errno) { return g.Own(w.l) })
	}
}

// TestL3OwnMany: how many own routes there are has no bound, and they need no order.
func TestL3OwnMany(t *testing.T) {
	g := made(t)
	g.must("Up")(g.Up(outer))
	all := many(0, 5000)
	var l []api.Route
	for i := range all {
		l = append(l, api.Route{Prefix: all[len(all)-1-i], Path: repeated(4, i%api.MaxPath)})
	}
	got, e := g.Own(l)
	if best := g.Best(); e != api.OK || len(best) != len(all) || len(got) != len(all) {
		t.Fatalf("%v: %d are the best, %d are told", e, len(best), len(got))
	}
	for i, o := range g.Best() {
		if o.Route.Prefix != all[i] || got[i].Message.Have[0] != all[i] {
			t.Fatalf("%+v and %+v at %d, must be %v", o, got[i], i, all[i])
		}
	}
}

func TestL3Costs(t *testing.T) {
	g := ready(t)
	g.hears(outer, told(api.Route{Path: []int{2}, Next: never}, ten))
	g.best("out of reach")
	in, out := api.Route{Path: []int{2}, Pref: api.UsualPref, Next: never}, api.Route{Path: []int{1, 2}, Next: 50}
	costs := []api.NextCost{{Next: never, Cost: math.MaxInt}, {Next: 0}, {Next: top, Cost: 4}}
	g.must("Costs", have(inner, ten, in), have(client, ten, in), have(other, ten, out), have(inner2, ten, in), have(client2, ten, in))(g.Costs(costs))
	g.best("far away", api.Offer{Route: api.Route{Prefix: ten, Path: []int{2}, Pref: api.UsualPref, Next: never, Author: 9}, Peer: outer, Cost: math.MaxInt})
	g.must("another cost")(g.Costs([]api.NextCost{{Next: never}}))
	g.best("there", api.Offer{Route: api.Route{Prefix: ten, Path: []int{2}, Pref: api.UsualPref, Next: never, Author: 9}, Peer: outer})
	// What a cost was ahead of that is forgotten; costs that nobody needs yet are not.
	g.hears(other, told(api.Route{Path: []int{3}, Next: top}, eleven))
	if got := g.Best(); len(got) != 1 {
		t.Errorf("the best are %+v", got)
	}
	g.must("none", lost(inner, ten), lost(client, ten), lost(other, ten), lost(inner2, ten), lost(client2, ten))(g.Costs(nil))
	g.best("none")
}

func TestL3CostsRefuses(t *testing.T) {
	g := ready(t)
	g.hears(outer, told(api.Route{Path: []int{2}, Next: near}, ten))
	wrong := []struct {
		what  string
		error api.Errno
		l     []api.NextCost
	}{
		{"twice", api.ErrTwice, []api.NextCost{{Next: near, Cost: 1}, {Next: far, Cost: 1}, {Next: near, Cost: 1}}},
		{"twice, behind a cost", api.ErrTwice, []api.NextCost{{Next: near, Cost: -1}, {Next: far, Cost: 1}, {Next: far, Cost: 2}}},
		{"a cost", api.ErrRange, []api.NextCost{{Next: near, Cost: 1}, {Next: far, Cost: -1}}},
		{"the least cost", api.ErrRange, []api.NextCost{{Next: near, Cost: math.MinInt}}},
	}
	for _, w := range wrong {
		g.refuses(w.what, w.error, func() ([]api.Told, api.Errno) { return g.Costs(w.l) })
	}
}

// TestL3Tie: the costs decide among routes that are as good else.
func TestL3Tie(t *testing.T) {
	g := ready(t)
	g.hears(outer, told(api.Route{Path: []int{2}, Next: near}, ten))
	g.hears(other, told(api.Route{Path: []int{3}, Next: far}, ten))
	who := func(what string, want int) {
		t.Helper()
		if got := g.Best(); len(got) != 1 || got[0].Peer != want {
			t.Errorf("%s: %+v, must be of %d", what, got, want)
		}
	}
	who("the nearer one", outer)
	second := api.Route{Path: []int{3}, Pref: api.UsualPref, Next: far}
	g.must("turned round", have(inner, ten, second), have(client, ten, second), have(outer, ten, api.Route{Path: []int{1, 3}, Next: 50}), lost(other, ten),
		have(inner2, ten, second), have(client2, ten, second))(g.Costs([]api.NextCost{{Next: near, Cost: 2}, {Next: far, Cost: 1}}))
	who("turned round", other)
}
