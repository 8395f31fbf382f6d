package speaker_test

import (
	"testing"

	"wayfinder/api"
)

// goes holds what all peers are told of ten to what goes out to each, by number; a peer that is not named is told nothing.
func goes(t *testing.T, what string, g rig, n int, r api.Route, want map[int]api.Route) {
	t.Helper()
	var all []api.Told
	for p := range peers {
		if route, out := want[p]; out {
			all = append(all, have(p, ten, route))
		}
	}
	g.must(what, all...)(g.Hear(n, told(r, ten)))
}

// TestL6Example is the document's tenth example.
func TestL6Example(t *testing.T) {
	g := ready(t)
	r := api.Route{Path: []int{2, 4}, Next: near, Med: 5, Pref: 77, Author: 3, Clusters: []int{3}, Origin: 2, Marks: []int{1, 2}}
	in := api.Route{Path: []int{2, 4}, Origin: 2, Pref: api.UsualPref, Med: 5, Next: near, Marks: []int{1, 2}}
	out := api.Route{Path: []int{1, 2, 4}, Origin: 2, Next: 50, Marks: []int{1, 2}}
	goes(t, "an outer one", g, outer, r, map[int]api.Route{inner: in, client: in, other: out, inner2: in, client2: in})
}

func TestL6OfAnInnerOne(t *testing.T) {
	r := api.Route{Path: []int{4}, Pref: 7, Med: 8, Next: near, Author: 33, Clusters: []int{3, 2}}
	reflected, out := r, api.Route{Path: []int{1, 4}, Next: 50}
	reflected.Clusters = []int{6, 3, 2}
	goes(t, "of one that is no client", ready(t), inner, r, map[int]api.Route{client: reflected, outer: out, other: out, client2: reflected})
	goes(t, "of a client", ready(t), client, r, map[int]api.Route{inner: reflected, outer: out, other: out, inner2: reflected, client2: reflected})
	r.Author, r.Clusters = 0, nil
	reflected.Author, reflected.Clusters = 8, []int{6}
	goes(t, "without an author", ready(t), client, r, map[int]api.Route{inner: reflected, outer: out, other: out, inner2: reflected, client2: reflected})
	alone := ready(t, func(c *api.SpeakerConfig) {
		c.Cluster, c.Peers[client].Client, c.Peers[client2].Client = 0, false, false
	})
	goes(t, "without a cluster", alone, inner, r, map[int]api.Route{outer: out, other: out})
	nobody := ready(t, func(c *api.SpeakerConfig) { c.Peers[client].Client, c.Peers[client2].Client = false, false })
	goes(t, "without clients", nobody, inner, r, map[int]api.Route{outer: out, other: out})
}

func TestL6Marks(t *testing.T) {
	marked := func(marks ...int) api.Route { return api.Route{Path: []int{2}, Next: near, Marks: marks} }
	in := func(marks ...int) api.Route {
		return api.Route{Path: []int{2}, Pref: api.UsualPref, Next: near, Marks: marks}
	}
	inside := in(5, api.MarkInside)
	all := map[int]api.Route{inner: inside, client: inside, inner2: inside, client2: inside}
	goes(t, "inside", ready(t), outer, marked(5, api.MarkInside), all)
	goes(t, "here", ready(t), outer, marked(api.MarkHere), nil)
	goes(t, "here and inside", ready(t), outer, marked(1, api.MarkInside, api.MarkHere), nil)
	beside := in(api.MarkInside-1, api.MarkHere+1)
	out := api.Route{Path: []int{1, 2}, Next: 50, Marks: beside.Marks}
	goes(t, "beside", ready(t), outer, marked(beside.Marks...), map[int]api.Route{inner: beside, client: beside, other: out, inner2: beside, client2: beside})
	// A mark that the policy In has put there counts; one that Out puts there is told.
	goes(t, "hidden as it comes in", ready(t, func(c *api.SpeakerConfig) { c.Peers[outer].In = "hide" }), outer, marked(), nil)
	hidden := in(api.MarkInside)
	goes(t, "marked as it goes out", ready(t, func(c *api.SpeakerConfig) {
		for i := range c.Peers {
			c.Peers[i].Out = "inside"
		}
	}), outer, marked(), map[int]api.Route{inner: hidden, client: hidden, other: {Path: []int{1, 2}, Next: 50, Marks: []int{api.MarkInside}}, inner2: hidden, client2: hidden})
	// Own routes are hidden likewise.
	g := ready(t)
	g.must("own, here")(g.Own([]api.Route{{Prefix: ten, Marks: []int{api.MarkHere}}}))
	own := api.Route{Next: 50, Marks: []int{api.MarkInside}}
	g.must("own, inside", have(inner, ten, own), have(client, ten, own), have(inner2, ten, own), have(client2, ten, own))(g.Own([]api.Route{{Prefix: ten, Marks: own.Marks}}))
}

func TestL6Path(t *testing.T) {
	r := api.Route{Path: []int{2, 4, 3}, Next: near}
	in := api.Route{Path: []int{2, 4, 3}, Pref: api.UsualPref, Next: near}
	goes(t, "where it has been", ready(t), outer, r, map[int]api.Route{inner: in, client: in, inner2: in, client2: in})
	// Another peer of the same domain is not told either.
	twins := ready(t, func(c *api.SpeakerConfig) { c.Peers[other].Domain = 2 })
	goes(t, "another one of its domain", twins, outer, r, map[int]api.Route{inner: in, client: in, inner2: in, client2: in})
	from := api.Route{Path: []int{4, 2}, Pref: 9, Next: near, Author: 7}
	reflected := from
	reflected.Clusters = []int{6}
	goes(t, "an inner one that was in 2", ready(t), inner, from, map[int]api.Route{client: reflected, other: {Path: []int{1, 4, 2}, Next: 50}, client2: reflected})
}

func TestL6PolicyOut(t *testing.T) {
	out := func(names map[int]string) turn {
		return func(c *api.SpeakerConfig) {
			for n, name := range names {
				c.Peers[n].Out = name
			}
		}
	}
	r := api.Route{Path: []int{2, 4}, Med: 5, Next: near, Marks: []int{7}}
	in := api.Route{Path: []int{2, 4}, Pref: api.UsualPref, Med: 5, Next: near, Marks: []int{7}}
	prepended, raised := in, in
	prepended.Path, raised.Pref = []int{1, 1, 2, 4}, 300
	// Pref and Med are 0 for another domain ahead of its policy, which may set them.
	turned := api.Route{Path: []int{1, 2, 4}, Med: 9, Next: 50, Marks: []int{8}}
	g := ready(t, out(map[int]string{inner: "shut", client: "twice", other: "turn", inner2: "raise", client2: "fall"}))
	goes(t, "by policies", g, outer, r, map[int]api.Route{client: prepended, other: turned, inner2: raised})
	g = ready(t, out(map[int]string{inner: "usual", other: "usual", client: "tens", inner2: "shut", client2: "shut"}))
	goes(t, "what they see", g, outer, r, map[int]api.Route{inner: in, client: in})
	g.must("another prefix", have(inner, eleven, in))(g.Hear(outer, told(r, eleven)))
}

// TestL6TooLong: what can't be written does not go out, to those alone for whom it is too long.
func TestL6TooLong(t *testing.T) {
	path := append([]int{2}, repeated(4, api.MaxPath-1)...)
	in := api.Route{Path: path, Pref: api.UsualPref, Next: near}
	out := api.Route{Path: append([]int{1}, path[:api.MaxPath-1]...), Next: 50}
	shorter := in
	shorter.Path = path[:api.MaxPath-1]
	g := ready(t)
	goes(t, "63 domains", g, outer, api.Route{Path: shorter.Path, Next: near}, map[int]api.Route{inner: shorter, client: shorter, other: out, inner2: shorter, client2: shorter})
	g.must("64 domains", have(inner, ten, in), have(client, ten, in), lost(other, ten), have(inner2, ten, in), have(client2, ten, in))(g.Hear(outer, told(api.Route{Path: path, Next: near}, ten)))
	full := api.Route{Next: near, Author: 4, Clusters: repeated(3, api.MaxMarks)}
	less := full
	less.Clusters = repeated(3, api.MaxMarks-1)
	fits := full
	fits.Clusters = append([]int{6}, less.Clusters...)
	bare := api.Route{Path: []int{1}, Next: 50}
	goes(t, "31 clusters", ready(t), client, less, map[int]api.Route{inner: fits, outer: bare, other: bare, inner2: fits, client2: fits})
	goes(t, "32 clusters", ready(t), client, full, map[int]api.Route{outer: bare, other: bare})
	// What no policy but one makes too long is not told either: it is rejected.
	long := ready(t, func(c *api.SpeakerConfig) { c.Peers[other].Out, c.Peers[inner].Out = "twice", "twice" })
	goes(t, "prepended", long, outer, api.Route{Path: shorter.Path, Next: near}, map[int]api.Route{client: shorter, inner2: shorter, client2: shorter})
}

// TestL7Once: what is told already is not told again, and what is lost is told once.
func TestL7Once(t *testing.T) {
	g := ready(t)
	r := api.Route{Path: []int{2}, Med: 4, Next: near}
	in, out := api.Route{Path: []int{2}, Pref: api.UsualPref, Med: 4, Next: near}, api.Route{Path: []int{1, 2}, Next: 50}
	goes(t, "first", g, outer, r, map[int]api.Route{inner: in, client: in, other: out, inner2: in, client2: in})
	goes(t, "again", g, outer, r, nil)
	// Who is told nothing of what has changed is told nothing.
	r.Med, in.Med = 5, 5
	goes(t, "another Med", g, outer, r, map[int]api.Route{inner: in, client: in, inner2: in, client2: in})
	r.Pref, r.Author = 9, 9
	goes(t, "what does not come in", g, outer, r, nil)
	g.must("worse, by another one")(g.Hear(other, told(api.Route{Path: []int{3, 3}, Next: near}, ten)))
	g.must("lost by another one")(g.Hear(other, gone(ten)))
	g.must("lost", lost(inner, ten), lost(client, ten), lost(other, ten), lost(inner2, ten), lost(client2, ten))(g.Hear(outer, gone(ten)))
	g.must("lost again")(g.Hear(outer, gone(ten)))
}

// TestL7Each: each part of a route that changes is told; of lists, too, what is longer or in another order.
func TestL7Each(t *testing.T) {
	g := ready(t)
	r := api.Route{Path: []int{4}, Next: near}
	g.hears(client, told(r, ten))
	for i, turn := range []func(){
		func() { r.Path = []int{4, 4} },
		func() { r.Path = []int{4, 5} },
		func() { r.Path = []int{5, 4} },
		func() { r.Path = []int{5} },
		func() { r.Path = nil },
		func() { r.Origin = 1 },
		func() { r.Pref = 1 },
		func() { r.Med = 1 },
		func() { r.Next = far },
		func() { r.Marks = []int{3} },
		func() { r.Marks = []int{4} },
		func() { r.Marks = []int{4, 5} },
		func() { r.Clusters = []int{3} },
		func() { r.Clusters = []int{3, 4} },
		func() { r.Clusters = []int{4, 3} },
		func() { r.Author = 1 },
	} {
		turn()
		got, e := g.Hear(client, told(r, ten))
		want := r
		if want.Author == 0 {
			want.Author = 8
		}
		want.Clusters = append([]int{6}, r.Clusters...)
		if e != api.OK || len(got) < 3 || show(got[0]) != show(have(inner, ten, want)) {
			t.Errorf("turn %d: %v %+v, must be %+v first", i, e, got, want)
		}
		g.must("again")(g.Hear(client, told(r, ten)))
	}
}

// TestL7Order: by peer, then by prefix, each alone in an update.
func TestL7Order(t *testing.T) {
	g := made(t)
	g.Costs([]api.NextCost{{Next: near}})
	for _, n := range []int{other, outer, inner} {
		g.must("Up")(g.Up(n))
	}
	in, out := api.Route{Path: []int{2}, Pref: api.UsualPref, Next: near}, api.Route{Path: []int{1, 2}, Next: 50}
	g.must("three", have(inner, ten, in), have(inner, long, in), have(inner, eleven, in), have(other, ten, out), have(other, long, out), have(other, eleven, out))(
		g.Hear(outer, told(api.Route{Path: []int{2}, Next: near}, ten, long, eleven)))
	in.Med = 1
	g.must("lost, new and changed", have(inner, every, in), lost(inner, ten), have(inner, long, in), have(other, every, out), lost(other, ten))(
		g.Hear(outer, api.PvMessage{Kind: api.PvUpdate, Lost: []api.Prefix{ten}, Have: []api.Prefix{every, long}, Route: api.Route{Path: []int{2}, Med: 1, Next: near}}))
	old := in
	old.Med = 0
	g.must("who comes up", have(client, every, in), have(client, long, in), have(client, eleven, old))(g.Up(client))
	g.must("who goes", lost(inner, every), lost(inner, long), lost(inner, eleven), lost(client, every), lost(client, long), lost(client, eleven), lost(other, every), lost(other, long), lost(other, eleven))(g.Down(outer))
}

// TestL7UpAgain: to a peer that comes up nothing was told yet; what it told is told by nobody.
func TestL7UpAgain(t *testing.T) {
	g := ready(t)
	g.Own([]api.Route{{Prefix: ten}})
	out := api.Route{Path: []int{1}, Next: 50}
	for range 3 {
		g.must("Down")(g.Down(outer))
		g.must("Up", have(outer, ten, out))(g.Up(outer))
	}
	g.Down(outer)
	g.Own(nil)
	g.must("nothing is left")(g.Up(outer))
}
