package lsr_test

import (
	"fmt"
	"math/rand"
	"slices"
	"testing"

	"wayfinder/api"
	"wayfinder/area"
	"wayfinder/lsr"
)

// world is a network: routers that are joined by wires.
type world struct {
	*rand.Rand
	t       *testing.T
	configs []api.LsrConfig
	outer   [][]api.LsrExt
	up      []map[int]bool // of each router, which ports are up
	routers []*lsr.Router
	wires   []*wire
	now     int
}

// wire joins two ports. What is on its way over it lies in a list for each direction.
type wire struct {
	router, link [2]int
	whole        bool
	way          [2][]flight
}

// flight is a packet that arrives ahead of the tick behind that time.
type flight struct {
	bytes []byte
	at    int
}

var netAreas = []int{0, 3, 1, 65534}

func drawWorld(t *testing.T, seed int64) *world {
	w := &world{Rand: rand.New(rand.NewSource(seed)), t: t}
	n := 2 + w.Intn(5)
	for i, id := range w.Perm(9)[:n] {
		c := api.LsrConfig{ID: id + 1}
		if w.Intn(6) == 0 {
			c.ID = 1<<32 - 1 - i
		}
		w.configs = append(w.configs, c)
	}
	for i := range n + w.Intn(n+1) {
		a := i % n
		b := (a + 1 + w.Intn(n-1)) % n
		w.join(a, b, netAreas[min(w.Intn(3)*w.Intn(3), 3)])
	}
	for i := range w.configs {
		if w.Intn(3) == 0 {
			w.addPort(i, netAreas[w.Intn(4)])
		}
		w.drawStubs(i)
	}
	w.routers, w.up, w.outer = make([]*lsr.Router, n), make([]map[int]bool, n), make([][]api.LsrExt, n)
	for i := range n {
		w.up[i] = map[int]bool{}
		w.begin(i)
	}
	return w
}

func (w *world) addPort(i, area int) int {
	ports := &w.configs[i].Ports
	link := 7 * len(*ports)
	*ports = append([]api.LsrPort{port(link, area, 1+w.Intn(4))}, *ports...)
	return link
}

// join lays a wire; a few lead into another area at the other end, so that nothing comes of them.
func (w *world) join(a, b, area int) {
	other := area
	if w.Intn(12) == 0 {
		other = netAreas[w.Intn(4)]
	}
	w.wires = append(w.wires, &wire{router: [2]int{a, b}, link: [2]int{w.addPort(a, area), w.addPort(b, other)}})
}

func (w *world) prefix() api.Prefix {
	return []api.Prefix{six, ten, eleven, at(0, 0), at(0x0a400000, 10), at(0, 29), at(0x0c000000, 6)}[w.Intn(7)]
}

func (w *world) drawStubs(i int) {
	c := &w.configs[i]
	c.Stubs = nil
	for _, p := range c.Ports {
		s := stub(p.Area, w.prefix(), w.Intn(3))
		if w.Intn(2) == 0 && !slices.ContainsFunc(c.Stubs, func(t api.LsrStub) bool { return t.Area == s.Area && t.Prefix == s.Prefix }) {
			c.Stubs = append(c.Stubs, s)
		}
	}
}

// begin lets a router begin anew, with the ports up that were up.
func (w *world) begin(i int) {
	r, e := lsr.New(w.configs[i])
	if e != api.OK {
		w.t.Fatalf("New %+v: %v", w.configs[i], e)
	}
	w.routers[i], w.outer[i] = r, nil
	for _, p := range w.configs[i].Ports {
		if w.up[i][p.Link] {
			r.Up(p.Link)
		}
	}
}

func (w *world) setPort(i, link int, up bool) {
	if w.up[i][link] == up {
		return
	}
	w.up[i][link] = up
	e := w.routers[i].Down
	if up {
		e = w.routers[i].Up
	}
	if e := e(link); e != api.OK {
		w.t.Fatalf("a port's Up or Down: %v", e)
	}
}

// mend lets a wire be whole, and both its ports be up.
func (w *world) mend(x *wire) {
	x.whole = true
	for k := range 2 {
		w.setPort(x.router[k], x.link[k], true)
	}
}

// cut cuts a wire, be it that one of its ports, or both, come to know it or not.
func (w *world) cut(x *wire) {
	x.whole = false
	x.way = [2][]flight{}
	for k := range 2 {
		if w.Intn(2) == 0 {
			w.setPort(x.router[k], x.link[k], false)
		}
	}
}

func (w *world) redistribute(i int) {
	var l []api.LsrExt
	for range w.Intn(3) {
		if o := outer(w.prefix(), w.Intn(3), w.Intn(3)); !slices.ContainsFunc(l, func(x api.LsrExt) bool { return x.Prefix == o.Prefix }) {
			l = append(l, o)
		}
	}
	w.outer[i] = l
	if e := w.routers[i].Redistribute(l); e != api.OK {
		w.t.Fatalf("Redistribute: %v", e)
	}
}

// harm lets something happen to the network.
func (w *world) harm() {
	x := w.wires[w.Intn(len(w.wires))]
	i := w.Intn(len(w.routers))
	switch w.Intn(12) {
	case 0, 1:
		w.cut(x)
	case 2, 3, 4:
		w.mend(x)
	case 5:
		w.redistribute(i)
	case 6:
		if w.Intn(3) == 0 {
			w.drawStubs(i)
		}
		w.begin(i)
	}
}

// put lets a packet go over a wire. A bad wire loses, doubles, delays and bends; a good one keeps their order.
func (w *world) put(x *wire, k int, b []byte, bad bool) {
	f := flight{b, w.now + w.Intn(2)}
	if !bad {
		if n := len(x.way[k]); n > 0 {
			f.at = max(f.at, x.way[k][n-1].at)
		}
		x.way[k] = append(x.way[k], f)
		return
	}
	switch w.Intn(8) {
	case 0:
		return
	case 1:
		x.way[k] = append(x.way[k], f)
		f.at += w.Intn(9)
	case 2:
		f.at += w.Intn(30)
	case 3:
		f.bytes = w.bend(b)
	}
	x.way[k] = slices.Insert(x.way[k], w.Intn(len(x.way[k])+1), f)
}

// bend turns bits of a copy that stand within 32 next to each other.
func (w *world) bend(b []byte) []byte {
	b = slices.Clone(b)
	first := w.Intn(8*len(b) - 31)
	for range 1 + w.Intn(5) {
		i := first + w.Intn(32)
		b[i/8] ^= 0x80 >> (i % 8)
	}
	return b
}

// send puts all that went out onto the wires.
func (w *world) send(bad bool) {
	for i, r := range w.routers {
		for _, s := range r.Take() {
			for _, x := range w.wires {
				for k := range 2 {
					if x.whole && x.router[k] == i && x.link[k] == s.Link {
						w.put(x, k, s.Bytes, bad)
					}
				}
			}
		}
	}
}

// deliver hands over one packet that has arrived, of any wire.
func (w *world) deliver() bool {
	for _, n := range w.Perm(2 * len(w.wires)) {
		x, k := w.wires[n/2], n%2
		if i := slices.IndexFunc(x.way[k], func(f flight) bool { return f.at <= w.now }); i >= 0 {
			b := x.way[k][i].bytes
			x.way[k] = slices.Delete(x.way[k], i, i+1)
			w.routers[x.router[1-k]].Hear(x.link[1-k], b)
			return true
		}
	}
	return false
}

func (w *world) tick(bad bool) {
	w.now++
	for _, i := range w.Perm(len(w.routers)) {
		w.routers[i].Tick()
	}
	w.send(bad)
	for n := 0; w.deliver(); n++ {
		w.send(bad)
		if n > 100000 {
			w.t.Fatal("packets without end")
		}
	}
}

// truth gives what routers know of each area if all know all, without sums.
func (w *world) truth() map[int]*api.AreaBase {
	all := map[int]*api.AreaBase{}
	for _, n := range netAreas {
		all[n] = &api.AreaBase{Area: n}
	}
	for i, c := range w.configs {
		for n, a := range all {
			if in(c, n) {
				a.Stubs = append(a.Stubs, api.Stub{Node: c.ID, Prefix: at(uint32(c.ID), 32)})
			}
		}
		for _, s := range c.Stubs {
			all[s.Area].Stubs = append(all[s.Area].Stubs, api.Stub{Node: c.ID, Prefix: s.Prefix, Cost: s.Cost})
		}
		for _, p := range c.Ports {
			if to, ok := w.across(i, p); ok {
				all[p.Area].Edges = append(all[p.Area].Edges, api.Edge{From: c.ID, To: to, Cost: p.Cost, Link: p.Link})
			}
		}
	}
	return all
}

func in(c api.LsrConfig, area int) bool {
	return slices.ContainsFunc(c.Ports, func(p api.LsrPort) bool { return p.Area == area })
}

// across gives the router to which a port leads, if a wire is up there within the port's area.
func (w *world) across(i int, p api.LsrPort) (int, bool) {
	for _, x := range w.wires {
		for k := range 2 {
			if !x.whole || x.router[k] != i || x.link[k] != p.Link {
				continue
			}
			other := w.configs[x.router[1-k]]
			same := slices.ContainsFunc(other.Ports, func(q api.LsrPort) bool { return q.Link == x.link[1-k] && q.Area == p.Area })
			return other.ID, same
		}
	}
	return 0, false
}

// bases gives what each router knows if all know all.
func (w *world) bases() []api.Base {
	all := w.truth()
	sums := map[int][]api.Stub{}
	for {
		var out []api.Base
		told := map[int][]api.Stub{}
		for _, c := range w.configs {
			var b api.Base
			for n, a := range all {
				if in(c, n) {
					known := *a
					known.Sums = sums[n]
					b.Areas = append(b.Areas, known)
				}
			}
			for k, l := range w.outer {
				for _, o := range l {
					b.Exts = append(b.Exts, api.Ext{Node: w.configs[k].ID, Prefix: o.Prefix, Cost: o.Cost, Tag: o.Tag})
				}
			}
			out = append(out, b)
			for _, s := range area.Sums(b, c.ID) {
				told[s.Area] = append(told[s.Area], api.Stub{Node: c.ID, Prefix: s.Prefix, Cost: s.Cost})
			}
		}
		if fmt.Sprint(told) == fmt.Sprint(sums) {
			return out
		}
		sums = told
	}
}

// quiet lets the time go by in which nothing happens, and holds all ways against what they must be.
func (w *world) quiet(kinds map[int]int) {
	w.t.Helper()
	for range api.MaxAge + 40 + 12*len(w.routers) {
		w.tick(false)
	}
	for i, b := range w.bases() {
		got, want := w.routers[i].Ways(), area.Ways(b, w.configs[i].ID)
		if fmt.Sprint(got) != fmt.Sprint(want) {
			w.t.Fatalf("G11 ways of %d\n%v\nmust be\n%v", w.configs[i].ID, got, want)
		}
		for _, x := range got {
			kinds[x.Kind]++
		}
	}
}

// land lets all that is late arrive, in any order.
func (w *world) land() {
	for more := true; more; more = w.deliver() {
		w.send(true)
		for _, x := range w.wires {
			for k := range 2 {
				for i := range x.way[k] {
					x.way[k][i].at = w.now
				}
			}
		}
	}
}

func TestG11AllComeToKnowTheNetwork(t *testing.T) {
	kinds := map[int]int{}
	for seed := range int64(24) {
		w := drawWorld(t, seed)
		for _, x := range w.wires {
			w.mend(x)
		}
		if seed%4 == 0 {
			w.quiet(kinds)
		}
		for range w.Intn(200) {
			w.harm()
			w.tick(true)
		}
		for i := range w.routers {
			if w.Intn(2) == 0 {
				w.redistribute(i)
			}
		}
		w.land()
		w.quiet(kinds)
	}
	for kind := api.WayLocal; kind <= api.WayExternal; kind++ {
		if kinds[kind] < 25 {
			t.Errorf("only %d ways of kind %d", kinds[kind], kind)
		}
	}
}
