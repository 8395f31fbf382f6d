package table_test

import (
	"math"
	"slices"
	"testing"

	"wayfinder/api"
	"wayfinder/table"
)

func TestP1Anything(t *testing.T) {
	d := drawn(3)
	numbers := []int{math.MinInt, -1, 0, 1, 2, 3, 4, 5, 31, 32, 33, 65535, 65536, 1<<32 - 1, 1 << 32, math.MaxInt}
	n := func() int { return one(d, numbers...) }
	at := func() api.Prefix { return pre(uint32(n()), one(d, n(), 0, 32)) }
	links := func() []int { return one(d, nil, []int{}, []int{n()}, []int{n(), n()}, []int{1, 2}) }
	for range 500 {
		g := table.New()
		for range 20 {
			g.Ways([]api.Way{way(at(), n(), n(), links()...), way(at(), one(d, 1, 2, 3, 4), n(), links()...)})
			if l, e := g.Fixed([]api.Fixed{{Prefix: at(), Links: links(), Next: uint32(n())}, {Prefix: at(), Links: links()}}); e != api.OK && l != nil {
				t.Fatalf("%v, and %v is written", e, l)
			}
			o := api.Offer{Route: api.Route{Prefix: at(), Next: uint32(n()), Path: []int{n()}, Pref: n()}, Peer: n(), Inner: d.Intn(2) == 0, Cost: n()}
			g.Offers([]api.Offer{o, {}})
			g.Rows()
			g.Links(n())
			g.Costs([]uint32{uint32(n()), uint32(n())})
		}
	}
}

// roomy gives a list with something in the room behind it, and the whole.
func roomy(l ...int) (list, whole []int) {
	whole = append(slices.Clone(l), 7, 7, 7)
	return whole[:len(l)], whole
}

// asked tells all that a table answers that is only asked.
func asked(g *table.Table) string {
	out := show(g.Rows()) + show(g.Costs([]uint32{7, 8, 0x0a000001, 0x0b000001, 0x0c000001}))
	for n := range 10 {
		out += show(g.Links(n))
	}
	return out
}

// TestP2OnlyRead: what is handed in is read, with the room behind it, and not kept.
func TestP2OnlyRead(t *testing.T) {
	g := table.New()
	unsorted, wholeUnsorted := roomy(3, 1, 3)
	rising, wholeRising := roomy(4, 5)
	ways := []api.Way{way(ten, api.WayIntra, 1, unsorted...), way(seven, api.WayLocal, 0, unsorted...)}
	fixed := []api.Fixed{{Prefix: eleven, Links: rising}, to(twelve, 0x0a000001)}
	path, wholePath := roomy(2, 4)
	offers := []api.Offer{outer(eight, 0x0b000001, 3), inner(last, 0x0a000001, 4)}
	offers[0].Route.Path = path
	costs := []uint32{0x0a000001, 0x0a000001, 0x0b000001, 99, 98}
	handed := func() string {
		return show([]any{wholeUnsorted, wholeRising, wholePath, ways, fixed, offers, costs})
	}
	before := handed()
	g.Ways(ways)
	g.Fixed(fixed)
	g.Offers(offers)
	g.Costs(costs[:3])
	if after := handed(); after != before {
		t.Errorf("what was handed in is\n%s\nand was\n%s", after, before)
	}
	was := asked(g)
	clear(wholeUnsorted)
	clear(wholeRising)
	clear(wholePath)
	clear(ways)
	clear(fixed)
	clear(offers)
	if asked(g) != was {
		t.Errorf("what was handed in is kept: it answers\n%s\nand did\n%s", asked(g), was)
	}
	// And so are the ways when all is worked out anew.
	g.Offers(nil)
	g.Fixed(nil)
	if got, want := g.Rows(), []api.Row{row(seven, api.RowLocal, 0), row(ten, api.RowIntra, 1, 1, 3)}; show(got) != show(want) {
		t.Errorf("the ways are\n%+v\nand must be\n%+v", got, want)
	}
}

// spoil writes over all of a list, and over the spare room behind it.
func spoil[T any](l []T) { clear(l[:cap(l)]) }

// play hands something in, and answers what was written.
func (d drawing) play(g *table.Table) ([]api.Write, api.Errno) {
	switch d.Intn(3) {
	case 0:
		return g.Ways(d.ways()), api.OK
	case 1:
		return g.Fixed(d.fixed())
	}
	return g.Offers(d.offers()), api.OK
}

// TestP2AnswersAreTheCallers: who writes into an answer, or behind it, changes nothing.
func TestP2AnswersAreTheCallers(t *testing.T) {
	for seed := range int64(100) {
		run := func(spoiled bool) string {
			d, g, text := drawn(seed), table.New(), ""
			for range 30 {
				writes, _ := d.play(g)
				rows, links, costs := g.Rows(), g.Links(1), g.Costs([]uint32{7, 8, 0x0a000001})
				text += show([]any{writes, rows, links, costs})
				if !spoiled {
					continue
				}
				for _, r := range rows {
					spoil(r.Links)
				}
				spoil(rows)
				spoil(links)
				spoil(costs)
				spoil(writes)
			}
			return text
		}
		if run(false) != run(true) {
			t.Fatal("an answer is not the caller's")
		}
	}
}

// TestP2NoListsShared: no two rows of one answer share a list, though they have one set.
func TestP2NoListsShared(t *testing.T) {
	g := table.New()
	g.Ways([]api.Way{way(ten, api.WayIntra, 1, 1, 2), way(eleven, api.WayIntra, 1, 2, 1)})
	g.Fixed([]api.Fixed{to(twelve, 0x0a000001), over(seven, 1, 2)})
	g.Offers([]api.Offer{outer(eight, 7, 1)})
	rows := g.Rows()
	if len(rows) != 5 {
		t.Fatalf("%+v", rows)
	}
	for i, r := range rows {
		for k := range r.Links[:cap(r.Links)] {
			r.Links[:cap(r.Links)][k] = i
		}
	}
	for i, r := range rows {
		if !slices.Equal(r.Links, []int{i, i}) {
			t.Errorf("row %d has %v", i, r.Links)
		}
	}
}

// TestP3OnNothingElse: tables do not hang on each other, nor on being asked.
func TestP3OnNothingElse(t *testing.T) {
	for seed := range int64(100) {
		run := func(among bool) string {
			d, away, g, beside, text := drawn(seed), drawn(seed+1000), table.New(), table.New(), ""
			for range 30 {
				writes, e := d.play(g)
				text += show(writes) + show(e)
				if among {
					away.play(beside)
					asked(g)
				}
			}
			return text + asked(g)
		}
		if alone, among := run(false), run(true); alone != among {
			t.Fatalf("alone\n%s\nand among others\n%s", alone, among)
		}
	}
}
