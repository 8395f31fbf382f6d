package table_test

import (
	"fmt"
	"slices"
	"testing"

	"wayfinder/api"
	"wayfinder/fib"
	"wayfinder/table"
)

func pre(a uint32, n int) api.Prefix { return api.Prefix{Addr: a, Len: n} }

var (
	every   = pre(0, 0)
	ten     = pre(0x0a000000, 8)
	tenLow  = pre(0x0a000000, 9)
	tenOne  = pre(0x0a010000, 16)
	eleven  = pre(0x0b000000, 8)
	twelve  = pre(0x0c000000, 8)
	seven   = pre(7, 32)
	eight   = pre(8, 32)
	last    = pre(0xffffffff, 32)
	invalid = []api.Prefix{pre(1, 0), pre(0, -1), pre(0, 33), pre(1, 31), pre(0x0a000001, 8), pre(0, 1<<40), pre(0, -1<<40)}
)

func way(p api.Prefix, kind, cost int, links ...int) api.Way {
	return api.Way{Prefix: p, Kind: kind, Cost: cost, Links: links}
}

func over(p api.Prefix, links ...int) api.Fixed { return api.Fixed{Prefix: p, Links: links} }

func to(p api.Prefix, next uint32) api.Fixed { return api.Fixed{Prefix: p, Next: next} }

func outer(p api.Prefix, next uint32, cost int) api.Offer {
	return api.Offer{Route: api.Route{Prefix: p, Next: next}, Cost: cost}
}

func inner(p api.Prefix, next uint32, cost int) api.Offer {
	o := outer(p, next, cost)
	o.Inner = true
	return o
}

func row(p api.Prefix, kind, cost int, links ...int) api.Row {
	return api.Row{Prefix: p, Kind: kind, Cost: cost, Links: links}
}

// show makes no difference between lists that are empty and that are not there.
func show(a any) string { return fmt.Sprintf("%+v", a) }

// put carries out a write.
func put(mem []uint32, w api.Write) []uint32 {
	for len(mem) <= w.At {
		mem = append(mem, 0)
	}
	mem[w.At] = w.Word
	return mem
}

// rig is a table with its memory, and what it must be.
type rig struct {
	*table.Table
	t     *testing.T
	mem   []uint32
	sides sides
	book  book
	like  *fib.Table // a forwarding table that is led as the document says
	asks  []uint32   // addresses that are asked at each moment
}

func made(t *testing.T, asks ...uint32) *rig {
	return &rig{Table: table.New(), t: t, like: fib.New(), asks: append(asks, 0, 7, 8, 9, 0x0a000001, 0x0a010001, 0x0a800000, 0x0b000001, 0x0c000001, 0xffffffff)}
}

// takeWays, takeFixed and takeOffers hand a list in, and hold all that M1 to M6 say against what comes of it.
func (g *rig) takeWays(l ...api.Way) []api.Write {
	g.t.Helper()
	g.sides.ways = l
	return g.follow(g.Ways(l))
}

func (g *rig) takeFixed(l ...api.Fixed) []api.Write {
	g.t.Helper()
	if want := check(l); want != api.OK {
		g.refuses("Fixed", want, l...)
		return nil
	}
	g.sides.fixed = l
	writes, e := g.Fixed(l)
	if e != api.OK {
		g.t.Fatalf("M1 Fixed %+v: %v", l, e)
	}
	return g.follow(writes)
}

func (g *rig) takeOffers(l ...api.Offer) []api.Write {
	g.t.Helper()
	g.sides.offers = l
	return g.follow(g.Offers(l))
}

// follow holds a call's writes, and what the table answers behind it, to what was handed in.
func (g *rig) follow(writes []api.Write) []api.Write {
	g.t.Helper()
	next := g.book.then(g.sides.rows())
	if want := g.book.writes(g.like, next); !slices.Equal(writes, want) {
		g.t.Fatalf("M5: the writes are\n%v\nand must be\n%v\nto come to %+v", writes, want, next)
	}
	for _, w := range writes {
		g.mem = put(g.mem, w)
		g.moment(next)
	}
	g.book = next
	g.moment(next)
	g.answers()
	return writes
}

// moment asks M6.
func (g *rig) moment(next book) {
	g.t.Helper()
	for _, a := range g.asks {
		if n := fib.Find(g.mem, a); n != g.book.find(a) && n != next.find(a) {
			g.t.Fatalf("M6: %x leads to %d, and must lead to %d or %d", a, n, g.book.find(a), next.find(a))
		}
	}
}

// answers holds what a table answers that is only asked to what was handed in.
func (g *rig) answers() {
	g.t.Helper()
	if got := g.Rows(); show(got) != show(g.book.rows) {
		g.t.Fatalf("M2: the rows are\n%+v\nand must be\n%+v", got, g.book.rows)
	}
	sets := map[int][]int{}
	for _, r := range g.book.rows {
		sets[g.book.number(r.Prefix)] = r.Links
	}
	for n := -2; n < 2*len(g.book.numbers)+4; n++ {
		if got := g.Links(n); show(got) != show(sets[n]) {
			g.t.Fatalf("M4: the links of %d are %v, and must be %v", n, got, sets[n])
		}
	}
	for n, l := range sets {
		if got := g.Links(n); show(got) != show(l) {
			g.t.Fatalf("M4: the links of %d are %v, and must be %v", n, got, l)
		}
	}
	twice := slices.Concat(g.asks[3:], g.asks)
	if got, want := g.Costs(twice), g.sides.costs(twice); show(got) != show(want) {
		g.t.Fatalf("M3: the costs are %v, and must be %v", got, want)
	}
}

// rows holds Rows to what a test says itself.
func (g *rig) rows(what string, want ...api.Row) {
	g.t.Helper()
	if got := g.Rows(); show(got) != show(want) {
		g.t.Errorf("%s: the rows are\n%+v\nand must be\n%+v", what, got, want)
	}
}

// leads holds the number to which an address leads, and its links, to what a test says itself.
func (g *rig) leads(what string, a uint32, number int, links ...int) {
	g.t.Helper()
	if n := fib.Find(g.mem, a); n != number || !slices.Equal(g.Links(n), links) {
		g.t.Errorf("%s: %x leads to %d %v, and must lead to %d %v", what, a, n, g.Links(n), number, links)
	}
}

// refuses holds Fixed to an error, and to changing nothing.
func (g *rig) refuses(what string, want api.Errno, l ...api.Fixed) {
	g.t.Helper()
	writes, e := g.Fixed(l)
	if e != want || len(writes) != 0 {
		g.t.Errorf("%s: it answers %v and writes %v, and must answer %v", what, e, writes, want)
	}
	g.answers()
}

// many gives prefixes, in order.
func many(n int) []api.Prefix {
	var out []api.Prefix
	for i := range n {
		out = append(out, pre(uint32(i)<<8, 24))
	}
	return out
}
