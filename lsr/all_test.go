package lsr_test

import (
	"fmt"
	"math/rand"
	"slices"
	"testing"

	"wayfinder/api"
	"wayfinder/lsa"
	"wayfinder/lsr"
)

// answers tells all that a router answers that is only asked.
func answers(r *lsr.Router) string {
	return fmt.Sprint(r.Near(), r.List(), r.Base(), r.Ways())
}

// busy gives a router that knows and owes much.
func busy(t *testing.T) rig {
	t.Helper()
	g := begin(t, api.LsrConfig{ID: 1, Ports: []api.LsrPort{port(4, 0, 10), port(6, 0, 1), port(8, 7, 1)}, Stubs: []api.LsrStub{stub(0, six, 1), stub(7, ten, 1), stub(0, at(0, 0), 4)}})
	g.refuses("Redistribute", g.Redistribute([]api.LsrExt{outer(ten, 1, 2), outer(eleven, 3, 4)}), api.OK)
	g.hear(4, hello(2, 0, 1), update(2, 0, ofRouter(0, 2, 1, 0, api.LsLink{To: 1, Cost: 3, Link: 4}), ofOuter(2, ten, 5, 5, 5, 5)))
	g.hear(8, hello(3, 7, 1), update(3, 7, ofRouter(7, 3, 1, 0, api.LsLink{To: 1, Cost: 3, Link: 4}), ofPrefix(7, 3, six, 2, 3, 4)))
	return g
}

func TestP1WhateverItIsHanded(t *testing.T) {
	r := rand.New(rand.NewSource(1))
	draw := func() int { return append(beyond, 0, 1, 2, 32, 33, 65534, 65535, 65536)[r.Intn(14)] }
	for range 300 {
		c := api.LsrConfig{ID: draw()}
		for range r.Intn(4) {
			c.Ports = append(c.Ports, port(draw(), draw(), draw()))
			c.Stubs = append(c.Stubs, stub(draw(), at(uint32(draw()), draw()), draw()))
		}
		if got, e := lsr.New(c); (got == nil) != (e != api.OK) {
			t.Fatalf("New %+v: %v %v", c, got, e)
		}
		g := busy(t)
		before := answers(g.Router)
		b := make([]byte, r.Intn(60))
		r.Read(b)
		link := draw()
		for _, e := range []api.Errno{g.Up(link), g.Down(link), g.Hear(link, b), g.Hear(4, b), g.Redistribute([]api.LsrExt{{Prefix: at(uint32(draw()), draw()|1), Cost: -1, Tag: draw()}})} {
			if e == api.OK {
				t.Fatal("what is wrong was taken")
			}
		}
		if answers(g.Router) != before {
			t.Fatal("what was refused has changed something")
		}
	}
}

func TestP2OnlyRead(t *testing.T) {
	ports := []api.LsrPort{port(8, 7, 1), port(4, 0, 10), port(6, 0, 1), port(1, 9, 9)}
	stubs := []api.LsrStub{stub(7, ten, 1), stub(0, six, 1), stub(0, at(0, 0), 4), stub(1, ten, 1)}
	outers := []api.LsrExt{outer(ten, 1, 2), outer(eleven, 3, 4), outer(six, 5, 6)}
	p, s, o := slices.Clone(ports), slices.Clone(stubs), slices.Clone(outers)
	r, _ := lsr.New(api.LsrConfig{ID: 1, Ports: p[:3], Stubs: s[:3]})
	g := rig{r, t, api.LsrConfig{ID: 1, Ports: ports}}
	g.Up(4)
	g.refuses("Redistribute", g.Redistribute(o[:2]), api.OK)
	b, _ := lsa.Encode(hello(2, 0, 1))
	b = append(b, 7, 7)
	whole := slices.Clone(b)
	g.refuses("Hear", g.Hear(4, b[:len(b)-2]), api.OK)
	same(t, "ports", p, ports)
	same(t, "stubs", s, stubs)
	same(t, "outer prefixes", o, outers)
	same(t, "bytes", b, whole)
	before := answers(r)
	clear(p)
	clear(s)
	clear(o)
	g.hear(4, hello(2, 0, 1))
	if answers(r) != before {
		t.Error("what was handed in is kept")
	}
}

func TestP2BytesAreNotKept(t *testing.T) {
	g := busy(t)
	x := ofRouter(0, 9, 1, 5, api.LsLink{To: 1, Cost: 3, Link: 4})
	b, _ := lsa.Encode(update(2, 0, x))
	g.refuses("Hear", g.Hear(4, b), api.OK)
	clear(b)
	g.has("as it came", x)
}

// spoil writes over all of a list, and over the spare room behind it.
func spoil[T any](l []T) {
	clear(l[:cap(l)])
}

func TestP2AnswersAreTheCallers(t *testing.T) {
	g, twin := busy(t), busy(t)
	want := answers(twin.Router)
	spoil(g.Near())
	for _, x := range g.List() {
		spoil(x.Links)
		spoil(x.Stubs)
	}
	spoil(g.List())
	b := g.Base()
	for _, a := range b.Areas {
		spoil(a.Edges)
		spoil(a.Stubs)
		spoil(a.Sums)
	}
	spoil(b.Areas)
	spoil(b.Exts)
	for _, w := range g.Ways() {
		spoil(w.Links)
	}
	if answers(g.Router) != want {
		t.Error("an answer is not the caller's")
	}
	sent := g.Take()
	for _, s := range sent {
		spoil(s.Bytes)
	}
	spoil(sent)
	twin.Take()
	for range 45 {
		g.Tick()
		twin.Tick()
		if a, b := fmt.Sprint(g.Take()), fmt.Sprint(twin.Take()); a != b {
			t.Fatalf("went out\n%s\nmust be\n%s", a, b)
		}
	}
}

// TestP2NoTwoShare: to write over one list of an answer changes no other one.
func TestP2NoTwoShare(t *testing.T) {
	list := busy(t).List()
	for i, x := range list {
		links, stubs := x.Links, x.Stubs
		list[i].Links, list[i].Stubs = nil, nil
		rest := fmt.Sprint(list, stubs)
		spoil(links)
		if fmt.Sprint(list, stubs) != rest {
			t.Fatal("links")
		}
		rest = fmt.Sprint(list)
		spoil(stubs)
		if fmt.Sprint(list) != rest {
			t.Fatal("stubs")
		}
	}
	b := busy(t).Base()
	for i, a := range b.Areas {
		b.Areas[i] = api.AreaBase{}
		rest := fmt.Sprint(b, a.Stubs, a.Sums)
		spoil(a.Edges)
		if fmt.Sprint(b, a.Stubs, a.Sums) != rest {
			t.Fatal("edges")
		}
		rest = fmt.Sprint(b, a.Sums)
		spoil(a.Stubs)
		if fmt.Sprint(b, a.Sums) != rest {
			t.Fatal("stubs of a base")
		}
		rest = fmt.Sprint(b)
		spoil(a.Sums)
		if fmt.Sprint(b) != rest {
			t.Fatal("sums")
		}
	}
	sent := busy(t).Take()
	for i := range sent {
		rest := fmt.Sprint(sent[i+1:])
		spoil(sent[i].Bytes)
		if fmt.Sprint(sent[i+1:]) != rest {
			t.Fatal("bytes")
		}
	}
}

func TestP3OnNothingElse(t *testing.T) {
	var told [2]string
	for k := range told {
		g := busy(t)
		for i := range 60 {
			if k == 1 { // asking, and another router, change nothing
				other := busy(t)
				other.ticks(i)
				answers(g.Router)
			}
			g.hear(4, hello(2, 0, 1))
			if i%7 == 0 {
				g.hear(4, update(2, 0, ofRouter(0, 2, 2+i, i)))
			}
			g.Tick()
			told[k] += answers(g.Router) + fmt.Sprint(g.Take())
		}
	}
	if told[0] != told[1] {
		t.Error("answers hang on something else")
	}
}
