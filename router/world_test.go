package router_test

import (
	"fmt"
	"math/rand"
	"slices"
	"testing"

	"wayfinder/api"
)

// world is a network: routers, each beside what it must be, that are joined by wires.
type world struct {
	*rand.Rand
	t       *testing.T
	configs []api.RouterConfig
	homes   []api.Prefix // the prefix of each router; of Len 0, if it has none
	routers []*pair
	wires   []*wire
	said    int // how much data was sent
}

// wire joins two interfaces. What is on its way over it lies in a list for each direction.
type wire struct {
	router, link [2]int
	way          [2][][]byte
}

func newWorld(t *testing.T, seed int64) *world {
	return &world{Rand: rand.New(rand.NewSource(seed)), t: t}
}

// begin lets all routers begin; their interfaces are down.
func (w *world) begin() {
	w.t.Helper()
	for _, c := range w.configs {
		p := begin(w.t, c)
		if p == nil {
			w.t.Fatalf("it is refused: %+v", c)
		}
		w.routers = append(w.routers, p)
	}
}

// join lays a wire between two routers, over interfaces that they do not have yet.
func (w *world) join(a, b int) *wire {
	x := &wire{router: [2]int{a, b}, link: [2]int{w.link(a), w.link(b)}}
	w.wires = append(w.wires, x)
	return x
}

// link gives an interface of a router over which no wire leads.
func (w *world) link(i int) int {
	for {
		link := one(w, w.Intn(4), w.Intn(65536), 65535)
		if !slices.ContainsFunc(w.wires, func(x *wire) bool {
			return x.router[0] == i && x.link[0] == link || x.router[1] == i && x.link[1] == link
		}) && !slices.ContainsFunc(w.configs[i].Lsr.Ports, func(p api.LsrPort) bool { return p.Link == link }) {
			return link
		}
	}
}

// one gives one of several.
func one[T any](w *world, l ...T) T { return l[w.Intn(len(l))] }

// ends gives both ends of a wire, in any order.
func (w *world) ends() []int { return w.Perm(2) }

func (w *world) mend(x *wire) {
	for _, k := range w.ends() {
		w.routers[x.router[k]].up(x.link[k])
	}
	w.send()
}

// cut cuts a wire: all that is on its way over it is lost.
func (w *world) cut(x *wire) {
	for _, k := range w.ends() {
		w.routers[x.router[k]].down(x.link[k])
	}
	w.send()
	x.way = [2][][]byte{}
}

// send puts all that went out onto the wires.
func (w *world) send() {
	for i, r := range w.routers {
		for _, s := range r.take() {
			for _, x := range w.wires {
				for k := range 2 {
					if x.router[k] == i && x.link[k] == s.Link {
						x.way[k] = append(x.way[k], s.Bytes)
					}
				}
			}
		}
	}
}

// deliver hands over the frame at a place of a wire's way.
func (w *world) deliver(x *wire, k, i int) {
	f := x.way[k][i]
	x.way[k] = slices.Delete(x.way[k], i, i+1)
	w.routers[x.router[1-k]].receive(x.link[1-k], f)
	w.send()
}

// settle lets all frames arrive, those of a wire in order.
func (w *world) settle() {
	w.t.Helper()
	if !w.settleWithin(100000) {
		w.t.Fatal("frames without end")
	}
}

// settleWithin lets so many frames arrive, and says whether these are all.
func (w *world) settleWithin(most int) bool {
	w.t.Helper()
	w.send()
	for range most {
		var full []func()
		for _, x := range w.wires {
			for k := range 2 {
				if len(x.way[k]) > 0 {
					full = append(full, func() { w.deliver(x, k, 0) })
				}
			}
		}
		if len(full) == 0 {
			return true
		}
		one(w, full...)()
	}
	return false
}

// quiet lets ticks go by in which nothing happens.
func (w *world) quiet(ticks int) {
	w.t.Helper()
	w.settle()
	for range ticks {
		for _, i := range w.Perm(len(w.routers)) {
			w.routers[i].tick()
		}
		w.settle()
	}
}

// renew cuts and mends all wires, one behind the other, or first all and then all.
func (w *world) renew() {
	together := w.Intn(2) == 0
	for _, i := range w.Perm(len(w.wires)) {
		w.cut(w.wires[i])
		if !together {
			w.mend(w.wires[i])
		}
	}
	for _, i := range w.Perm(len(w.wires)) {
		if together {
			w.mend(w.wires[i])
		}
	}
}

// arrives sends data from each router to the prefix of each other, and holds where it comes to what leads says.
func (w *world) arrives(leads func(a, b int) bool) {
	w.t.Helper()
	for _, r := range w.routers {
		r.arrived()
	}
	for a := range w.routers {
		for b, home := range w.homes {
			if a == b || home.Len == 0 {
				continue
			}
			last := home.Addr | ^uint32(0)>>home.Len
			for _, to := range []uint32{home.Addr, last, home.Addr | w.Uint32()>>home.Len} {
				w.carry(a, b, to, leads(a, b))
			}
		}
	}
}

// carry sends data, and asks whether it comes to b, once, and nowhere else.
func (w *world) carry(a, b int, to uint32, must bool) {
	w.t.Helper()
	w.said++
	text := fmt.Sprint("data ", w.said)
	if e := w.routers[a].send(to, []byte(text)); e != api.OK {
		w.t.Fatal(e)
	}
	w.settle()
	for i, r := range w.routers {
		l := r.arrived()
		switch {
		case i == b && must:
			if len(l) != 1 || l[0].To != to || string(l[0].Bytes) != text {
				w.t.Fatalf("data from %d to %d: there came %+v; the rows of %d are %+v", a, b, l, a, w.routers[a].is.Rows())
			}
		case len(l) != 0:
			w.t.Fatalf("data from %d to %d: at %d there came %+v", a, b, i, l)
		}
	}
}

// joined says whether wires lead from one router to another.
func (w *world) joined(a, b int) bool {
	seen := map[int]bool{a: true}
	for range w.configs {
		for _, x := range w.wires {
			if seen[x.router[0]] || seen[x.router[1]] {
				seen[x.router[0]], seen[x.router[1]] = true, true
			}
		}
	}
	return seen[b]
}

// home gives router i a prefix of its own.
func (w *world) home(i int) api.Prefix {
	n := 8 + w.Intn(24)
	a := uint32(10+i)<<24 | w.Uint32()>>8
	return pre(a&^(^uint32(0)>>n), n)
}
