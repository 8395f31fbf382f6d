package speaker_test

import (
	"math/rand"
	"testing"

	"wayfinder/api"
	"wayfinder/speaker"
)

// write enters into the books what a call has told.
func (b *books) write(l []api.Told) {
	for _, x := range l {
		for _, at := range x.Message.Lost {
			delete(b[x.Peer], at)
		}
		for _, at := range x.Message.Have {
			b[x.Peer][at] = x.Message.Route
		}
	}
}

// history leads a speaker to what a ledger says, by whatever ways, and answers what its peers have been told all in all.
func history(t *testing.T, d drawing, end *ledger) (*speaker.Speaker, books) {
	t.Helper()
	s, e := speaker.New(end.config)
	if e != api.OK {
		t.Fatal(e)
	}
	l := newLedger(end.config)
	b := l.all()
	note := func(got []api.Told, e api.Errno) {
		if e == api.OK {
			b.write(got)
		}
	}
	for range d.Intn(40) {
		up := l.up
		_, got, e, _ := d.play(s, l)
		for n := range peers {
			if l.up[n] != up[n] {
				clear(b[n])
			}
		}
		note(got, e)
	}
	steps := []func(){
		func() { note(s.Own(end.own)) },
		func() { note(s.Costs(end.costs)) },
	}
	for n := range peers {
		steps = append(steps, func() { endPeer(d, s, n, l.up[n], end, &b, note) })
	}
	d.Shuffle(len(steps), func(i, j int) { steps[i], steps[j] = steps[j], steps[i] })
	for _, step := range steps {
		step()
	}
	return s, b
}

// endPeer leads one peer to what the ledger says of it, its prefixes in any order; where it is up already it need not go down.
func endPeer(d drawing, s *speaker.Speaker, n int, up bool, end *ledger, b *books, note func([]api.Told, api.Errno)) {
	if up && (!end.up[n] || d.Intn(2) == 0) {
		clear(b[n])
		note(s.Down(n))
		up = false
	}
	if !end.up[n] {
		return
	}
	if !up {
		note(s.Up(n))
	}
	all := append([]api.Prefix(nil), some...)
	d.Shuffle(len(all), func(i, j int) { all[i], all[j] = all[j], all[i] })
	for _, at := range all {
		if r, tells := end.tells[n][at]; tells {
			note(s.Hear(n, told(r, at)))
		} else {
			note(s.Hear(n, gone(at)))
		}
	}
}

// TestL8: two speakers that have come to the same by different ways have told the same, and answer the same.
func TestL8(t *testing.T) {
	d := drawing{rand.New(rand.NewSource(2))}
	entries := 0
	for range 1000 {
		end := newLedger(d.config())
		for n := range peers {
			if d.Intn(5) == 0 {
				continue
			}
			end.turn(n, true)
			for range 3 {
				end.hear(n, d.update(end.config.Peers[n].Domain))
			}
		}
		end.own, end.costs = d.ownRoutes(), d.someCosts()
		one, first := history(t, d, end)
		two, second := history(t, d, end)
		if show(first) != show(second) || show(first) != show(end.all()) {
			t.Fatalf("told are\n%+v\nand\n%+v\nand must be\n%+v", first, second, end.all())
		}
		if show(one.Best()) != show(two.Best()) || show(one.Best()) != show(end.bests()) {
			t.Fatalf("the best are\n%+v\nand\n%+v\nand must be\n%+v", one.Best(), two.Best(), end.bests())
		}
		for n := range peers {
			entries += len(first[n])
		}
	}
	if entries < 3000 {
		t.Errorf("only %d prefixes were told", entries)
	}
}

// TestL8Med: where Med makes no order among three routes, the best one does not hang on which came first.
func TestL8Med(t *testing.T) {
	routes := map[int]api.PvMessage{
		inner: told(api.Route{Path: []int{2}, Pref: api.UsualPref, Med: 1, Next: far}, ten),
		outer: told(api.Route{Path: []int{2}, Med: 2, Next: near}, ten),
		other: told(api.Route{Path: []int{3}, Med: 3, Next: far}, ten),
	}
	for _, order := range [][]int{{inner, outer, other}, {inner, other, outer}, {outer, inner, other}, {outer, other, inner}, {other, inner, outer}, {other, outer, inner}} {
		g := ready(t)
		for _, n := range order {
			g.hears(n, routes[n])
		}
		if got := g.Best(); len(got) != 1 || got[0].Peer != other {
			t.Errorf("in the order %v: %+v", order, got)
		}
		g.hears(inner, gone(ten))
		if got := g.Best(); len(got) != 1 || got[0].Peer != outer {
			t.Errorf("in the order %v, without the first: %+v", order, got)
		}
	}
}
