package table_test

import (
	"testing"

	"wayfinder/api"
)

func TestM2Ways(t *testing.T) {
	g := made(t)
	g.takeWays(way(last, api.WayExternal, 4, 65535, 0, 256, 255), way(tenOne, api.WayIntra, 2, 3, 1, 3, 3, 2, 1), way(every, api.WayInter, 3), way(ten, api.WayLocal, 1, 9, 8))
	g.rows("ways", row(every, api.RowInter, 3), row(ten, api.RowLocal, 1), row(tenOne, api.RowIntra, 2, 1, 2, 3), row(last, api.RowExternal, 4, 0, 255, 256, 65535))
}

// TestM2Fixed: one without links goes as the way with the longest prefix, whatever else is known.
func TestM2Fixed(t *testing.T) {
	g := made(t)
	g.takeWays(way(ten, api.WayIntra, 5, 2, 1), way(tenLow, api.WayExternal, 6, 3), way(tenOne, api.WayInter, 7), way(seven, api.WayLocal, 0, 9), way(eight, api.WayIntra, 1, 4))
	a, b := pre(0x40000000, 8), pre(0x41000000, 8)
	through := func(what string, next uint32, want ...int) {
		t.Helper()
		g.takeFixed(to(a, next))
		i := at(g.Rows(), a)
		if len(want) == 0 && i < 0 {
			return
		}
		if i < 0 || show(g.Rows()[i]) != show(row(a, api.RowFixed, 0, want...)) {
			t.Errorf("%s: %+v, must go over %v", what, g.Rows(), want)
		}
	}
	through("one way", 0x0affffff, 1, 2)
	through("the longer one of two", 0x0a7fffff, 3)
	through("the longest one, without links", 0x0a010001)
	through("a local one", 7)
	through("one address", 8, 4)
	through("no way", 9)
	through("no way, at 0", 0)
	// Neither what is fixed nor what is offered leads another fixed one.
	g.takeOffers(outer(pre(0x0a800000, 16), 8, 1))
	through("a way, below which something is offered", 0x0a800001, 1, 2)
	g.takeFixed(over(b, 6), to(a, 0x41000001), over(pre(0x0a800000, 32), 7), to(eleven, 0x0a800000))
	g.rows("fixed ones", row(seven, api.RowLocal, 0), row(eight, api.RowIntra, 1, 4), row(ten, api.RowIntra, 5, 1, 2), row(tenLow, api.RowExternal, 6, 3), row(tenOne, api.RowInter, 7),
		row(pre(0x0a800000, 16), api.RowOuter, 1, 4), row(pre(0x0a800000, 32), api.RowFixed, 0, 7), row(eleven, api.RowFixed, 0, 1, 2), row(b, api.RowFixed, 0, 6))
	// One that leads to itself goes as the way does that it takes the place of.
	g.takeOffers()
	g.takeFixed(to(ten, 0x0a800000), to(tenOne, 0x0a010000), over(last, 0, 5, 65535))
	g.rows("to themselves", row(seven, api.RowLocal, 0), row(eight, api.RowIntra, 1, 4), row(ten, api.RowFixed, 0, 1, 2), row(tenLow, api.RowExternal, 6, 3), row(tenOne, api.RowInter, 7),
		row(last, api.RowFixed, 0, 0, 5, 65535))
	// With other ways it goes elsewhere.
	g.takeWays(way(every, api.WayExternal, 1, 8))
	g.rows("other ways", row(every, api.RowExternal, 1, 8), row(ten, api.RowFixed, 0, 8), row(tenOne, api.RowFixed, 0, 8), row(last, api.RowFixed, 0, 0, 5, 65535))
}

// TestM2Offers: they go by the rows of ways and of fixed ones, and not by what is offered.
func TestM2Offers(t *testing.T) {
	g := made(t)
	a, b, c := pre(0x40000000, 8), pre(0x41000000, 8), pre(0x42000000, 8)
	g.takeWays(way(ten, api.WayIntra, 5, 2, 1), way(tenLow, api.WayLocal, 0), way(eight, api.WayIntra, 1, 4), way(seven, api.WayInter, 1))
	g.takeFixed(over(eleven, 3), to(twelve, 8), over(tenOne, 6), over(tenLow, 7), over(eight, 8))
	g.takeOffers(outer(a, 0x0a800000, 9), inner(b, 0x0a010001, 8), outer(c, 0x0c000001, 7))
	rest := []api.Row{row(seven, api.RowInter, 1), row(eight, api.RowFixed, 0, 8), row(ten, api.RowIntra, 5, 1, 2), row(tenLow, api.RowLocal, 0), row(tenOne, api.RowFixed, 0, 6),
		row(eleven, api.RowFixed, 0, 3), row(twelve, api.RowFixed, 0, 4)}
	g.rows("offers", append(rest, row(a, api.RowOuter, 9, 1, 2), row(b, api.RowInner, 8, 6), row(c, api.RowOuter, 7, 4))...)
	// Of two rows of one prefix the lesser kind holds: the local one has no links, the fixed one others than the way.
	g.takeOffers(outer(a, 0x0a000001, 9), inner(b, 8, 8), outer(c, 7, 7))
	g.rows("two of one prefix", append(rest, row(b, api.RowInner, 8, 8))...)
	g.takeOffers(outer(a, 8, 9), inner(b, 0x40000001, 8), outer(c, 99, 7))
	g.rows("by another offer, and by nothing", append(rest, row(a, api.RowOuter, 9, 8))...)
}

// TestM2LeastKind: of two rows of one prefix the lesser kind holds, whatever they cost.
func TestM2LeastKind(t *testing.T) {
	kinds := []int{api.RowLocal, api.RowFixed, api.RowOuter, api.RowIntra, api.RowInter, api.RowExternal, api.RowInner}
	ways := map[int]int{api.RowLocal: api.WayLocal, api.RowIntra: api.WayIntra, api.RowInter: api.WayInter, api.RowExternal: api.WayExternal}
	for i, first := range kinds {
		for _, second := range kinds[i+1:] {
			g := made(t)
			hop := way(eight, api.WayIntra, 1, 8)
			list := []api.Way{hop}
			var fixed []api.Fixed
			var offers []api.Offer
			for cost, k := range []int{second, first} {
				switch kind, isWay := ways[k]; {
				case isWay:
					list = append(list, way(ten, kind, cost, k))
				case k == api.RowFixed:
					fixed = append(fixed, over(ten, k))
				default:
					offers = append(offers, api.Offer{Route: api.Route{Prefix: ten, Next: 8}, Inner: k == api.RowInner, Cost: cost})
				}
			}
			if len(list) > 2 || len(offers) > 1 {
				continue // of one side the first counts alone
			}
			g.takeOffers(offers...)
			g.takeFixed(fixed...)
			g.takeWays(list...)
			if got := g.Rows(); len(got) != 2 || got[1].Kind != first {
				t.Errorf("kinds %d and %d: %+v", first, second, got)
			}
		}
	}
}

func TestM3Costs(t *testing.T) {
	g := made(t)
	costs := func(what string, asked []uint32, want ...api.NextCost) {
		t.Helper()
		if got := g.Costs(asked); show(got) != show(want) {
			t.Errorf("%s: %v, must be %v", what, got, want)
		}
	}
	costs("nothing known", []uint32{0, 7})
	g.takeWays(way(ten, api.WayIntra, 5, 1), way(tenLow, api.WayLocal, 0), way(tenOne, api.WayExternal, 7, 1), way(eight, api.WayIntra, 0, 2), way(seven, api.WayInter, 2), way(last, api.WayIntra, 1<<40, 3))
	costs("no address", nil)
	costs("each once, in order", []uint32{0xffffffff, 8, 0x0a010000, 8, 0x0a800000, 0xffffffff, 0x0a010001, 0x0a010000},
		api.NextCost{Next: 0xffffffff, Cost: 1 << 40}, api.NextCost{Next: 8}, api.NextCost{Next: 0x0a010000, Cost: 7}, api.NextCost{Next: 0x0a800000, Cost: 5}, api.NextCost{Next: 0x0a010001, Cost: 7})
	costs("no links, no row", []uint32{7, 0x0a000001, 9, 0, 0x0a800000, 7}, api.NextCost{Next: 0x0a800000, Cost: 5})
	// A fixed one costs nothing; a local one stands ahead of it.
	g.takeFixed(over(ten, 4), over(tenLow, 4), to(eleven, 8), to(twelve, 7))
	costs("fixed", []uint32{0x0b000001, 0x0c000001, 0x0a800000, 0x0a000001, 0x0a010001}, api.NextCost{Next: 0x0b000001}, api.NextCost{Next: 0x0a800000}, api.NextCost{Next: 0x0a010001, Cost: 7})
	// What is offered leads no offer.
	g.takeOffers(outer(pre(0x40000000, 8), 8, 3), outer(pre(0x0a810000, 16), 0xffffffff, 3), outer(seven, 8, 4))
	costs("offered", []uint32{0x40000001, 0x0a810000, 7}, api.NextCost{Next: 0x0a810000})
}
