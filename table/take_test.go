package table_test

import (
	"math"
	"slices"
	"testing"

	"wayfinder/api"
	"wayfinder/fib"
)

func TestM1WaysThatCount(t *testing.T) {
	for _, w := range []api.Way{
		way(ten, api.WayIntra, 0, 1), way(ten, api.WayInter, math.MaxInt, 0), way(ten, api.WayExternal, 3, 65535, 0),
		way(every, api.WayIntra, 1, 1), way(last, api.WayIntra, 1, 1), way(ten, api.WayIntra, 1), way(ten, api.WayLocal, 0), way(ten, api.WayLocal, 4, 9),
		{Prefix: ten, Kind: api.WayExternal, Links: []int{1}, Tag: -1},
	} {
		g := made(t)
		g.takeWays(w)
		if got := g.Rows(); len(got) != 1 || got[0].Prefix != w.Prefix || got[0].Cost != w.Cost {
			t.Errorf("%+v must count: %+v", w, got)
		}
	}
	wrong := []api.Way{
		way(ten, 0, 1, 1), way(ten, 5, 1, 1), way(ten, -1, 1, 1), way(ten, math.MaxInt, 1, 1), way(ten, math.MinInt, 1, 1),
		way(ten, api.WayIntra, -1, 1), way(ten, api.WayLocal, -1), way(ten, api.WayIntra, math.MinInt, 1),
		way(ten, api.WayIntra, 1, -1), way(ten, api.WayIntra, 1, 65536), way(ten, api.WayIntra, 1, 1, 2, 65536), way(ten, api.WayIntra, 1, math.MinInt, 2), way(ten, api.WayLocal, 1, 65536),
	}
	for _, p := range invalid {
		wrong = append(wrong, way(p, api.WayIntra, 1, 1))
	}
	for _, w := range wrong {
		g := made(t)
		if writes := g.takeWays(w); len(writes) != 0 {
			t.Errorf("%+v must not count: it writes %v", w, writes)
		}
		g.rows("one that does not count")
		// It takes no place from those behind it, either.
		g.takeWays(w, way(ten, api.WayExternal, 7, 2), w)
		g.rows("one that counts behind it", row(ten, api.RowExternal, 7, 2))
	}
}

func TestM1OffersThatCount(t *testing.T) {
	near := way(seven, api.WayIntra, 1, 3)
	for _, o := range []api.Offer{outer(ten, 7, 0), inner(ten, 7, math.MaxInt), outer(every, 7, 1), inner(last, 7, 1), {Route: api.Route{Prefix: ten, Next: 7, Path: []int{-1}}, Peer: math.MaxInt}} {
		g := made(t)
		g.takeWays(near)
		g.takeOffers(o)
		rows := slices.DeleteFunc(g.Rows(), func(r api.Row) bool { return r.Prefix == seven })
		if len(rows) != 1 || rows[0].Prefix != o.Route.Prefix || rows[0].Cost != o.Cost {
			t.Errorf("%+v must count: %+v", o, rows)
		}
	}
	wrong := []api.Offer{outer(ten, 7, -1), inner(ten, 7, math.MinInt)}
	for _, n := range []int{-1, math.MinInt} {
		o := outer(ten, 7, 0)
		o.Peer = n
		wrong = append(wrong, o)
	}
	for _, p := range invalid {
		wrong = append(wrong, outer(p, 7, 1))
	}
	for _, o := range wrong {
		g := made(t)
		g.takeWays(near)
		if writes := g.takeOffers(o); len(writes) != 0 {
			t.Errorf("%+v must not count: it writes %v", o, writes)
		}
		g.takeOffers(o, inner(ten, 7, 6), o)
		g.rows("one that counts behind it", row(seven, api.RowIntra, 1, 3), row(ten, api.RowInner, 6, 3))
	}
}

// TestM1FirstOfAPrefix: it counts alone, though it be the worse one, or give no row.
func TestM1FirstOfAPrefix(t *testing.T) {
	g := made(t)
	g.takeWays(way(ten, api.WayExternal, 9, 4), way(ten, api.WayLocal, 0), way(tenLow, api.WayIntra, 1), way(tenLow, api.WayIntra, 1, 2), way(ten, api.WayIntra, 1, 1))
	g.rows("ways", row(ten, api.RowExternal, 9, 4), row(tenLow, api.RowIntra, 1))
	g.takeOffers(outer(eleven, 99, 1), outer(eleven, 0x0a800000, 1), inner(twelve, 0x0a800000, 5), outer(twelve, 0x0a800000, 1))
	g.rows("offers", row(ten, api.RowExternal, 9, 4), row(tenLow, api.RowIntra, 1), row(twelve, api.RowInner, 5, 4))
}

// TestM1MaxRows: of each side so many count, of those that count and of each prefix once.
func TestM1MaxRows(t *testing.T) {
	all := many(api.MaxRows + 2)
	var ways []api.Way
	var offers []api.Offer
	for _, p := range all {
		ways = append(ways, way(p, 0, 1, 1), way(p, api.WayIntra, 1, 1), way(p, api.WayLocal, 0))
		offers = append(offers, outer(p, 0, -1), outer(p, 0, 3), inner(p, 0, 2))
	}
	g := made(t)
	ends := func(what string, kind int) {
		t.Helper()
		rows := g.Rows()
		if len(rows) != api.MaxRows || rows[0].Prefix != all[0] || rows[len(rows)-1].Prefix != all[api.MaxRows-1] {
			t.Fatalf("%s: %d rows", what, len(rows))
		}
		for _, r := range rows {
			if r.Kind != kind {
				t.Fatalf("%s: %+v", what, r)
			}
		}
	}
	g.Ways(ways)
	ends("ways", api.RowIntra)
	slices.Reverse(ways)
	g.Ways(ways)
	if rows := g.Rows(); len(rows) != api.MaxRows || rows[0].Prefix != all[2] || rows[0].Kind != api.RowLocal {
		t.Errorf("the other way round: %d rows, the first is %+v", len(rows), rows[0])
	}
	g.Ways([]api.Way{way(all[0], api.WayExternal, 1, 1)})
	g.Offers(offers)
	ends("offers", api.RowOuter)
	var fixed []api.Fixed
	for _, p := range all {
		fixed = append(fixed, over(p, 1))
	}
	g.Offers(nil)
	if _, e := g.Fixed(fixed[:api.MaxRows]); e != api.OK {
		t.Fatalf("so many as may be fixed: %v", e)
	}
	ends("fixed", api.RowFixed)
	if writes, e := g.Fixed(fixed[:api.MaxRows+1]); e != api.ErrFull || len(writes) != 0 {
		t.Errorf("one more is fixed: %v", e)
	}
	ends("one more is fixed", api.RowFixed)
}

// TestM1AllSidesFull: each side has as many as count, each a set of its own; then all of them others.
func TestM1AllSidesFull(t *testing.T) {
	g := made(t)
	fill := func(from int) {
		var ways []api.Way
		var fixed []api.Fixed
		var offers []api.Offer
		for i, p := range many(3 * api.MaxRows) {
			switch n := from + i; i % 3 {
			case 0:
				ways = append(ways, way(p, api.WayExternal, 1, n, n+1))
			case 1:
				fixed = append(fixed, over(p, n))
			default:
				offers = append(offers, inner(p, p.Addr-256, 1))
			}
		}
		for _, w := range g.Ways(ways) {
			g.mem = put(g.mem, w)
		}
		l, _ := g.Fixed(fixed)
		for _, w := range slices.Concat(l, g.Offers(offers)) {
			g.mem = put(g.mem, w)
		}
	}
	for _, from := range []int{0, 30000} {
		fill(from)
		rows := g.Rows()
		if len(rows) != 3*api.MaxRows {
			t.Fatalf("%d rows", len(rows))
		}
		for _, r := range []int{0, 1, 2, 3, 2999, 3*api.MaxRows - 3, 3*api.MaxRows - 2, 3*api.MaxRows - 1} {
			n := from + r - r%3/2
			want := []int{n}
			if r%3 == 0 {
				want = []int{n, n + 1}
			}
			if show(rows[r].Links) != show(want) {
				t.Errorf("row %d is %+v, and must have %v", r, rows[r], want)
			}
			if way := fib.Find(g.mem, rows[r].Prefix.Addr+9); way < 1 || way > 12000 || show(g.Links(way)) != show(want) {
				t.Errorf("row %d leads to %d %v, and must lead to %v", r, way, g.Links(way), want)
			}
		}
	}
}

// TestM1InThePlace: what a side is handed stands in the place of what it knew, and of nothing else.
func TestM1InThePlace(t *testing.T) {
	g := made(t)
	g.takeWays(way(ten, api.WayIntra, 1, 1), way(seven, api.WayIntra, 2, 2))
	g.takeFixed(over(eleven, 3))
	g.takeOffers(outer(twelve, 7, 4))
	seventh, fixed, offer := row(seven, api.RowIntra, 2, 2), row(eleven, api.RowFixed, 0, 3), row(twelve, api.RowOuter, 4, 2)
	g.rows("all", seventh, row(ten, api.RowIntra, 1, 1), fixed, offer)
	g.takeWays(way(seven, api.WayIntra, 2, 2))
	g.rows("other ways", seventh, fixed, offer)
	g.takeFixed()
	g.rows("nothing fixed", seventh, offer)
	g.takeFixed(over(ten, 3))
	g.rows("something else fixed", seventh, row(ten, api.RowFixed, 0, 3), offer)
	g.takeOffers(inner(eleven, 7, 4))
	g.rows("another offer", seventh, row(ten, api.RowFixed, 0, 3), row(eleven, api.RowInner, 4, 2))
	g.takeOffers()
	g.takeWays()
	g.rows("what is fixed", row(ten, api.RowFixed, 0, 3))
	g.takeFixed()
	g.rows("nothing")
}

func TestM1FixedRefuses(t *testing.T) {
	g := made(t)
	g.takeWays(way(seven, api.WayIntra, 2, 2))
	g.takeFixed(over(ten, 1), to(eleven, 7))
	for _, p := range invalid {
		g.refuses("a prefix", api.ErrBits, over(twelve, 1), over(p, 1))
	}
	bits, range1, form := over(pre(1, 0), 1), over(every, 65536), over(last, 2, 1)
	full := slices.Repeat([]api.Fixed{bits}, api.MaxRows+1)
	wrong := []struct {
		what  string
		error api.Errno
		l     []api.Fixed
	}{
		{"too many, and all else is wrong", api.ErrFull, full},
		{"so many as may be, and all else is wrong", api.ErrBits, append(slices.Repeat([]api.Fixed{range1, form}, api.MaxRows/2-1), form, bits)},
		{"twice", api.ErrTwice, []api.Fixed{over(ten, 1), over(eleven, 1), to(ten, 5)}},
		{"twice the same", api.ErrTwice, []api.Fixed{over(ten, 1), over(ten, 1)}},
		{"twice, behind all else", api.ErrTwice, []api.Fixed{form, range1, over(ten, 1), over(ten, 1)}},
		{"a link", api.ErrRange, []api.Fixed{over(ten, -1)}},
		{"a link, behind the form", api.ErrRange, []api.Fixed{form, over(ten, 1), range1}},
		{"a link that does not rise", api.ErrRange, []api.Fixed{over(ten, 70000, 1)}},
		{"a link, and a next hop", api.ErrRange, []api.Fixed{{Prefix: ten, Links: []int{1, math.MaxInt}, Next: 7}}},
		{"links and a next hop", api.ErrForm, []api.Fixed{over(eleven, 1), {Prefix: ten, Links: []int{1}, Next: 7}}},
		{"links twice", api.ErrForm, []api.Fixed{over(ten, 2, 2)}},
		{"links that fall", api.ErrForm, []api.Fixed{over(ten, 1, 2, 4, 3)}},
	}
	for _, w := range wrong {
		g.refuses(w.what, w.error, w.l...)
	}
	g.rows("nothing has changed", row(seven, api.RowIntra, 2, 2), row(ten, api.RowFixed, 0, 1), row(eleven, api.RowFixed, 0, 2))
}
