package speaker_test

import (
	"math"
	"math/rand"
	"slices"
	"testing"

	"wayfinder/api"
	"wayfinder/speaker"
)

func TestP1Anything(t *testing.T) {
	r := rand.New(rand.NewSource(3))
	numbers := []int{math.MinInt, -1, 0, 1, 2, 5, 6, 32, 33, top, top + 1, math.MaxInt}
	n := func() int { return numbers[r.Intn(len(numbers))] }
	at := func() api.Prefix { return api.Prefix{Addr: uint32(n()), Len: n()} }
	route := func() api.Route {
		return api.Route{Prefix: at(), Path: []int{n(), n()}, Origin: n(), Pref: n(), Med: n(), Next: uint32(n()), Marks: []int{n()}, Clusters: []int{n()}, Author: n()}
	}
	taken := 0
	for range 3000 {
		c := usual()
		if r.Intn(2) == 0 {
			c.Domain, c.Id, c.Cluster = n(), n(), n()
		}
		c.Peers = append(c.Peers[:r.Intn(peers)], api.SpeakerPeer{Domain: n(), Id: n(), Client: r.Intn(2) == 0, In: []string{"", "turn", "?"}[r.Intn(3)]})
		s, e := speaker.New(c)
		if (s == nil) != (e != api.OK) {
			t.Fatalf("New %+v: %v %v", c, s, e)
		}
		if s == nil {
			continue
		}
		taken++
		for range 30 {
			var got []api.Told
			switch r.Intn(6) {
			case 0, 1:
				got, e = s.Up(r.Intn(peers))
			case 2:
				got, e = s.Down(n())
			case 3:
				got, e = s.Hear(r.Intn(peers), api.PvMessage{Kind: n(), Lost: []api.Prefix{at()}, Have: []api.Prefix{at()}, Route: route()})
			case 4:
				got, e = s.Own([]api.Route{route(), route()})
			default:
				got, e = s.Costs([]api.NextCost{{Next: uint32(n()), Cost: n()}, {Next: uint32(n()), Cost: n()}})
			}
			if e != api.OK && got != nil {
				t.Fatalf("%v, and %+v is told", e, got)
			}
			s.Best()
			s.Nexts()
		}
	}
	if taken < 100 {
		t.Errorf("only %d were made", taken)
	}
}

// roomy gives a list with something in the room behind it, and the whole.
func roomy(l ...int) (list, whole []int) {
	whole = append(slices.Clone(l), 7, 7, 7)
	return whole[:len(l)], whole
}

// TestP2OnlyRead: what is handed in is read, with the room behind it, and not kept.
func TestP2OnlyRead(t *testing.T) {
	c := usual()
	c.Peers[outer].In, c.Peers[other].Out = "turn", "twice"
	s, _ := speaker.New(c)
	g := rig{s, t}
	clear(c.Peers)
	for _, p := range c.Policies.Policies {
		clear(p.Terms)
	}
	clear(c.Policies.Policies)
	costs := []api.NextCost{{Next: near, Cost: 1}, {Next: far, Cost: 2}}
	path, wholePath := roomy(2, 4)
	marks, wholeMarks := roomy(3, 7)
	clusters, wholeClusters := roomy(9, 8)
	prefixes := []api.Prefix{ten, long, eleven}
	own := []api.Route{{Prefix: every, Path: path, Marks: marks, Clusters: clusters}}
	m := api.PvMessage{Kind: api.PvUpdate, Lost: prefixes[2:], Have: prefixes[:2:2], Route: api.Route{Path: path, Next: near, Marks: marks, Clusters: clusters}}
	before := show([]any{costs, wholePath, wholeMarks, wholeClusters, prefixes, own, m})
	for n := range peers {
		g.Up(n)
	}
	g.Costs(costs)
	g.Own(own)
	for _, n := range []int{outer, client, inner} {
		g.hears(n, m)
	}
	if after := show([]any{costs, wholePath, wholeMarks, wholeClusters, prefixes, own, m}); after != before {
		t.Errorf("what was handed in is\n%s\nand was\n%s", after, before)
	}
	asked := g.asked()
	clear(costs)
	clear(wholePath)
	clear(wholeMarks)
	clear(wholeClusters)
	clear(prefixes)
	clear(own)
	if g.asked() != asked {
		t.Errorf("what was handed in is kept: it answers\n%s\nand did\n%s", g.asked(), asked)
	}
	// What goes out to who comes up later is as it was, too.
	g.Down(other)
	got, _ := g.Up(other)
	want := []api.Told{
		have(other, every, api.Route{Path: []int{1, 1, 1, 2, 4}, Next: 50, Marks: []int{3, 7}}),
		have(other, ten, api.Route{Path: []int{1, 1, 1, 2, 4}, Next: 50, Marks: []int{3, 8}}),
		have(other, long, api.Route{Path: []int{1, 1, 1, 2, 4}, Next: 50, Marks: []int{3, 8}}),
	}
	if show(got) != show(want) {
		t.Errorf("it tells\n%+v\nand must tell\n%+v", got, want)
	}
	// And so is what was not the best one.
	g.Down(outer)
	kept := api.Route{Path: []int{2, 4}, Next: near, Marks: []int{3, 7}, Clusters: []int{9, 8}, Author: 7}
	first, second, mine := kept, kept, kept
	first.Prefix, second.Prefix, mine.Next, mine.Author = ten, long, 50, 5
	g.best("without the best one", api.Offer{Route: mine, Peer: -1}, api.Offer{Route: first, Peer: inner, Inner: true, Cost: 1}, api.Offer{Route: second, Peer: inner, Inner: true, Cost: 1})
}

// spoil writes over all of a list, and over the spare room behind it.
func spoil[T any](l []T) { clear(l[:cap(l)]) }

func spoilRoute(r api.Route) {
	spoil(r.Path)
	spoil(r.Marks)
	spoil(r.Clusters)
}

func spoilTold(l []api.Told) {
	for _, x := range l {
		spoil(x.Message.Lost)
		spoil(x.Message.Have)
		spoilRoute(x.Message.Route)
	}
	spoil(l)
}

// TestP2AnswersAreTheCallers: who writes into an answer, or behind it, changes nothing.
func TestP2AnswersAreTheCallers(t *testing.T) {
	for seed := range int64(200) {
		run := func(spoiled bool) string {
			d := drawing{rand.New(rand.NewSource(seed))}
			c := d.config()
			s, _ := speaker.New(c)
			l := newLedger(c)
			text := ""
			for range 40 {
				_, got, _, _ := d.play(s, l)
				best, nexts := s.Best(), s.Nexts()
				text += show([]any{got, best, nexts})
				if !spoiled {
					continue
				}
				spoilTold(got)
				for _, o := range best {
					spoilRoute(o.Route)
				}
				spoil(best)
				spoil(nexts)
			}
			return text
		}
		if run(false) != run(true) {
			t.Fatal("an answer is not the caller's")
		}
	}
}

// lists gives all lists of numbers of an answer.
func lists(told []api.Told, best []api.Offer) [][]int {
	var out [][]int
	add := func(r api.Route) { out = append(out, r.Path, r.Marks, r.Clusters) }
	for _, x := range told {
		add(x.Message.Route)
	}
	for _, o := range best {
		add(o.Route)
	}
	return out
}

// TestP2NoListsShared: no two lists of one answer share memory, though one route was told of several prefixes, to several peers.
func TestP2NoListsShared(t *testing.T) {
	g := ready(t)
	r := api.Route{Path: []int{4}, Next: near, Marks: []int{3}, Clusters: []int{9}}
	got, _ := g.Hear(client, told(r, ten, long))
	count := 0
	for _, all := range [][][]int{lists(got, nil), lists(nil, g.Best())} {
		for i, l := range all {
			for k := range l[:cap(l)] {
				l[:cap(l)][k] = -1 - i
			}
		}
		for i, l := range all {
			for _, n := range l {
				count++
				if n != -1-i {
					t.Fatalf("list %d has %v", i, l)
				}
			}
		}
	}
	if count == 0 {
		t.Error("there are no lists")
	}
	for i, x := range got {
		x.Message.Have[0].Len = i
	}
	for i, x := range got {
		if x.Message.Have[0].Len != i {
			t.Error("updates share a list")
		}
	}
}

// TestP3OnNothingElse: speakers do not hang on each other, nor on being asked.
func TestP3OnNothingElse(t *testing.T) {
	for seed := range int64(100) {
		run := func(among bool) string {
			d := drawing{rand.New(rand.NewSource(seed))}
			c := d.config()
			s, _ := speaker.New(c)
			beside, _ := speaker.New(c)
			l, m := newLedger(c), newLedger(c)
			away := drawing{rand.New(rand.NewSource(seed + 1000))}
			text := ""
			for range 40 {
				_, got, e, _ := d.play(s, l)
				text += show(got) + show(e)
				if among {
					away.play(beside, m)
					s.Best()
					s.Nexts()
				}
			}
			return text + show(s.Best())
		}
		if alone, among := run(false), run(true); alone != among {
			t.Fatalf("alone\n%s\nand among others\n%s", alone, among)
		}
	}
}
