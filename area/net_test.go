package area_test

import (
	"math/rand"
	"slices"
	"testing"

	"wayfinder/api"
	"wayfinder/area"
	"wayfinder/pfx"
)

// net is a whole network: what each area's routers know of it, and who is in which.
type net struct {
	areas  []api.AreaBase
	member [][]int // of each router, which of areas it is in
	exts   []api.Ext
	peer   map[[2]int]int // to whom a router's link leads
}

// base is what a router knows.
func (n net) base(self int) api.Base {
	b := api.Base{Exts: n.exts}
	for _, i := range n.member[self] {
		b.Areas = append(b.Areas, n.areas[i])
	}
	return b
}

// tell gives all areas the sums that their routers tell by what was told ahead of it, and answers whether that is something new.
func (n net) tell() bool {
	told := make([][]api.Stub, len(n.areas))
	for self := range n.member {
		for _, s := range area.Sums(n.base(self), self) {
			i := slices.IndexFunc(n.areas, func(a api.AreaBase) bool { return a.Area == s.Area })
			told[i] = append(told[i], stub(self, s.Prefix, s.Cost))
		}
	}
	other := false
	for i := range n.areas {
		other = other || !slices.Equal(n.areas[i].Sums, told[i])
		n.areas[i].Sums = told[i]
	}
	return other
}

// drawNet draws a network in which area 0 holds together; the other areas may fall apart.
func drawNet(r *rand.Rand) net {
	n := net{areas: []api.AreaBase{{Area: 0}, {Area: 3}, {Area: 1}, {Area: 9}}, peer: map[[2]int]int{}}
	in := make([][]int, len(n.areas))
	for self := range 4 + r.Intn(6) {
		var mine []int
		for i := range n.areas {
			if r.Intn(5) < 2 {
				mine = append(mine, i)
			}
		}
		if len(mine) == 0 {
			mine = []int{r.Intn(len(n.areas))}
		}
		n.member = append(n.member, mine)
		for _, i := range mine {
			in[i] = append(in[i], self)
		}
	}
	for i := range n.areas {
		n.drawArea(r, i, in[i])
	}
	for range r.Intn(7) {
		n.exts = append(n.exts, ext(r.Intn(len(n.member)), drawPrefix(r), r.Intn(3), r.Intn(3)))
	}
	return n
}

func (n net) drawArea(r *rand.Rand, i int, in []int) {
	for k, self := range in {
		if i == 0 && k > 0 {
			n.join(r, i, self, in[r.Intn(k)])
		}
		n.areas[i].Stubs = append(n.areas[i].Stubs, stub(self, drawPrefix(r), r.Intn(4)))
		if r.Intn(6) > 0 {
			n.areas[i].Stubs = append(n.areas[i].Stubs, stub(self, at(uint32(self), 32), 0))
		}
	}
	if len(in) < 2 {
		return
	}
	for range len(in) + r.Intn(3) - 1 {
		n.join(r, i, in[r.Intn(len(in))], in[r.Intn(len(in))])
	}
}

// join lays a wire between two routers of an area, over interfaces that nothing else goes over. (A router is not joined to itself.)
func (n net) join(r *rand.Rand, i, a, b int) {
	if a == b {
		return
	}
	link := len(n.peer)
	n.peer[[2]int{a, link}], n.peer[[2]int{b, link}] = b, a
	n.areas[i].Edges = append(n.areas[i].Edges, wire(a, link, 1+r.Intn(4), b, link, 1+r.Intn(4))...)
	if r.Intn(6) == 0 && i > 0 {
		n.areas[i].Edges = n.areas[i].Edges[:len(n.areas[i].Edges)-1]
	}
}

// drawPrefix draws one that may lie in another; all hold their own first address.
func drawPrefix(r *rand.Rand) api.Prefix {
	return []api.Prefix{at(0, 0), ten, at(0x0a000000, 9), at(0x0a000000, 10), at(0x0a400000, 10), at(0x0a800000, 9), six, at(0, 29), at(4, 30)}[r.Intn(9)]
}

// walk follows a packet over all links of all ways; on has the routers at which it was.
type walk struct {
	t    *testing.T
	net  net
	ways [][]api.Way
	to   uint32
	on   []int
}

func (w *walk) from(self int) {
	w.t.Helper()
	if slices.Contains(w.on, self) {
		w.t.Fatalf("E4 %x goes round: %v, and again %d", w.to, w.on, self)
	}
	longest := api.Way{Prefix: at(0, -1)}
	for _, x := range w.ways[self] {
		if pfx.Has(x.Prefix, w.to) && x.Prefix.Len > longest.Prefix.Len {
			longest = x
		}
	}
	for _, x := range w.net.exts {
		if x.Node == self && pfx.Has(x.Prefix, w.to) && x.Prefix.Len >= longest.Prefix.Len {
			return
		}
	}
	if longest.Kind == api.WayLocal || longest.Kind == 0 && len(w.on) == 0 {
		return
	}
	if len(longest.Links) == 0 {
		w.t.Fatalf("E4 %x is left at %d, to which it came by %v", w.to, self, w.on)
	}
	w.on = append(w.on, self)
	for _, link := range longest.Links {
		next, ok := w.net.peer[[2]int{self, link}]
		if !ok {
			w.t.Fatalf("E4 %x at %d: a link %d that is not there", w.to, self, link)
		}
		w.from(next)
	}
	w.on = w.on[:len(w.on)-1]
}

func TestE4NoPacketGoesRound(t *testing.T) {
	r := rand.New(rand.NewSource(1))
	kinds := map[int]int{}
	for range 2500 {
		n := drawNet(r)
		n.tell()
		n.tell()
		if n.tell() {
			t.Fatal("E4 the third time brings something new")
		}
		w := walk{t: t, net: n}
		for self := range n.member {
			w.ways = append(w.ways, area.Ways(n.base(self), self))
			for _, x := range w.ways[self] {
				kinds[x.Kind]++
			}
		}
		for _, w.to = range []uint32{0, 1, 2, 3, 4, 5, 6, 7, 8, 0x06000000, 0x0a000000, 0x0a400000, 0x0a800000, 0x0b000000} {
			for self := range n.member {
				w.from(self)
			}
		}
	}
	for kind := api.WayLocal; kind <= api.WayExternal; kind++ {
		if kinds[kind] < 1000 {
			t.Errorf("only %d ways of kind %d were drawn", kinds[kind], kind)
		}
	}
}
