package table

import (
	"testing"

	"wayfinder/api"
)

// TestKeepsNoMore: of what a side does not know any more, and of a set that no row has, nothing is kept.
func TestKeepsNoMore(t *testing.T) {
	g := New()
	keeps := func(what string, ways, fixed, offers, base, rows, numbers int) {
		t.Helper()
		got := [...]int{g.ways.Len(), g.fixed.Len(), g.offers.Len(), g.base.Len(), g.rows.Len(), len(g.numbers)}
		if want := [...]int{ways, fixed, offers, base, rows, numbers}; got != want {
			t.Errorf("%s: %v are kept, must be %v", what, got, want)
		}
	}
	p := func(n int) api.Prefix { return api.Prefix{Addr: uint32(n) << 24, Len: 8} }
	for i := range 50 {
		g.Ways([]api.Way{{Prefix: p(i), Kind: api.WayIntra, Links: []int{i}}, {Prefix: p(200), Kind: 9}, {Prefix: p(100), Kind: api.WayLocal, Links: []int{i}}, {Prefix: p(i), Kind: api.WayLocal}})
		g.Fixed([]api.Fixed{{Prefix: p(i + 1), Links: []int{i, i + 1}}, {Prefix: p(101), Next: 1 << 31}})
		g.Offers([]api.Offer{{Route: api.Route{Prefix: p(i + 2), Next: p(i).Addr}}, {Route: api.Route{Prefix: p(3)}, Peer: -1}})
		keeps("one of each", 2, 2, 1, 3, 4, 3)
	}
	g.Offers(nil)
	keeps("no offers", 2, 2, 0, 3, 3, 3)
	g.Fixed(nil)
	keeps("nothing fixed", 2, 0, 0, 2, 2, 2)
	g.Ways(nil)
	keeps("nothing", 0, 0, 0, 0, 0, 0)
}
