package lsr_test

import (
	"fmt"
	"testing"

	"wayfinder/api"
	"wayfinder/lsr"
)

func TestG7Router(t *testing.T) {
	g := begin(t, api.LsrConfig{ID: 5, Ports: []api.LsrPort{port(9, 7, 1), port(3, 0, 2), port(8, 0, 65535), port(1, 0, 4), port(2, 0, 5)},
		Stubs: []api.LsrStub{stub(0, ten, 65535), stub(7, six, 1), stub(0, at(0, 0), 3), stub(0, six, 0)}})
	g.hear(9, hello(6, 7, 5))
	g.hear(8, hello(1<<32-1, 0, 5))
	g.hear(1, hello(6, 0, 5))
	g.hear(3, hello(7, 0, 0))
	own := api.LsStub{Prefix: at(5, 32)}
	g.has("area 0: links rise, stubs are in order", api.Lsa{Kind: api.LsaRouter, Origin: 5, Seq: 3,
		Links: []api.LsLink{{To: 6, Cost: 4, Link: 1}, {To: 1<<32 - 1, Cost: 65535, Link: 8}},
		Stubs: []api.LsStub{{Prefix: at(0, 0), Cost: 3}, own, {Prefix: six}, {Prefix: ten, Cost: 65535}}})
	g.has("area 7", api.Lsa{Kind: api.LsaRouter, Area: 7, Origin: 5, Seq: 2, Links: []api.LsLink{{To: 6, Cost: 1, Link: 9}},
		Stubs: []api.LsStub{own, {Prefix: six, Cost: 1}}})
	g.Down(8)
	g.hear(1, hello(6, 0, 0))
	g.has("no links any more", api.Lsa{Kind: api.LsaRouter, Origin: 5, Seq: 5, Stubs: []api.LsStub{{Prefix: at(0, 0), Cost: 3}, own, {Prefix: six}, {Prefix: ten, Cost: 65535}}})
}

func TestG7OwnPrefixIsTheGreatest(t *testing.T) {
	g := begin(t, api.LsrConfig{ID: 1<<32 - 1, Ports: []api.LsrPort{port(0, 3, 1)}, Stubs: []api.LsrStub{stub(3, ten, 1)}})
	g.has("behind the stub", api.Lsa{Kind: api.LsaRouter, Area: 3, Origin: 1<<32 - 1, Seq: 1,
		Stubs: []api.LsStub{{Prefix: ten, Cost: 1}, {Prefix: at(1<<32-1, 32)}}})
}

func TestG7NoPorts(t *testing.T) {
	g := begin(t, api.LsrConfig{ID: 3})
	g.keeps("no area")
	g.refuses("Redistribute", g.Redistribute([]api.LsrExt{outer(ten, 1, 2)}), api.OK)
	g.ticks(50)
	g.keeps("an outer prefix", "outer 3 10.0.0.0/8 #2 age 10")
	g.went("nothing")
}

func TestG7Refresh(t *testing.T) {
	g := one(t)
	g.refuses("Redistribute", g.Redistribute([]api.LsrExt{outer(ten, 1, 2)}), api.OK)
	g.ticks(39)
	g.keeps("below", "router 0/1 #1 age 39", "outer 1 10.0.0.0/8 #1 age 39")
	g.Tick()
	g.keeps("at", "router 0/1 #2 age 0", "outer 1 10.0.0.0/8 #2 age 0")
	g.refuses("Redistribute", g.Redistribute([]api.LsrExt{outer(ten, 1, 2)}), api.OK)
	g.refuses("Redistribute another cost", g.Redistribute([]api.LsrExt{outer(ten, 2, 2)}), api.OK)
	g.has("another cost", ofOuter(1, ten, 3, 0, 2, 2))
	g.refuses("Redistribute another tag", g.Redistribute([]api.LsrExt{outer(ten, 2, 3)}), api.OK)
	g.has("another tag", ofOuter(1, ten, 4, 0, 2, 3))
}

func TestG7Told(t *testing.T) {
	g := several(t)
	g.ticks(2)
	g.Take()
	g.refuses("Redistribute", g.Redistribute([]api.LsrExt{outer(ten, 1, 2), outer(six, 1, 2)}), api.OK)
	g.went("to all areas", "4 update outer 1 6.0.0.0/8 #1 age 1", "4 update outer 1 10.0.0.0/8 #1 age 1",
		"6 update outer 1 6.0.0.0/8 #1 age 1", "6 update outer 1 10.0.0.0/8 #1 age 1",
		"8 update outer 1 6.0.0.0/8 #1 age 1", "8 update outer 1 10.0.0.0/8 #1 age 1")
	g.hear(4, hello(2, 0, 0))
	g.went("to its area, but not to whom it is no longer two-way with", "4 hello 2", "6 update router 0/1 #4 age 1")
}

// TestG7Sums: what a router tells of the one area to the other changes in the call in which its own announcement does.
func TestG7Sums(t *testing.T) {
	g := begin(t, api.LsrConfig{ID: 1, Ports: []api.LsrPort{port(4, 0, 10), port(8, 7, 5), port(9, 9, 1)}, Stubs: []api.LsrStub{stub(7, eleven, 4)}})
	g.keeps("at the beginning", "router 0/1 #1 age 0", "summary 0/1 11.0.0.0/8 #1 age 0", "router 7/1 #1 age 0", "router 9/1 #1 age 0", "summary 9/1 11.0.0.0/8 #1 age 0")
	g.meet(4, 2)
	g.meet(8, 3)
	x := ofRouter(7, 3, 1, 0, api.LsLink{To: 1, Cost: 5, Link: 0})
	x.Stubs = append(x.Stubs, api.LsStub{Prefix: ten, Cost: 1})
	g.hear(8, update(3, 7, x))
	g.went("it is told on at once", "4 update summary 0/1 0.0.0.3/32 #1 age 1", "4 update summary 0/1 10.0.0.0/8 #1 age 1", "8 ack router 7/3 #1 age 0")
	g.has("what it costs", ofPrefix(0, 1, ten, 1, 0, 6))
	g.hear(4, update(2, 0, ofRouter(0, 2, 1, 0, api.LsLink{To: 1, Cost: 10, Link: 0}), ofPrefix(0, 2, six, 1, 0, 100)))
	g.has("an inter way", ofPrefix(7, 1, six, 1, 0, 110))
	g.has("an inter way to another area", ofPrefix(9, 1, six, 1, 0, 110))
	g.settle()
	g.hear(8, hello(3, 7, 0))
	g.went("at once it is taken back", "4 update summary 0/1 0.0.0.3/32 #1 age 120", "4 update summary 0/1 10.0.0.0/8 #1 age 120", "8 hello 3")
	g.hear(8, hello(3, 7, 1))
	g.has("and wanted again", ofPrefix(0, 1, ten, 2, 0, 6))
}

func TestG7Withdrawn(t *testing.T) {
	g := several(t)
	g.refuses("Redistribute", g.Redistribute([]api.LsrExt{outer(ten, 1, 2), outer(six, 1, 2)}), api.OK)
	g.settle()
	g.refuses("Redistribute less", g.Redistribute([]api.LsrExt{outer(six, 1, 2)}), api.OK)
	g.has("its end is kept", ofOuter(1, ten, 1, api.MaxAge, 1, 2))
	g.went("and told", "4 update outer 1 10.0.0.0/8 #1 age 120", "6 update outer 1 10.0.0.0/8 #1 age 120", "8 update outer 1 10.0.0.0/8 #1 age 120")
	g.Tick()
	g.went("once")
	g.refuses("Redistribute more", g.Redistribute([]api.LsrExt{outer(ten, 1, 2), outer(six, 1, 2)}), api.OK)
	g.has("it is there again", ofOuter(1, ten, 2, 0, 1, 2))
}

func TestG7OwnThatCome(t *testing.T) {
	g := several(t)
	link := func(to, link int) api.LsLink {
		cost := map[int]int{4: 10, 6: 1, 8: 1}[link]
		return api.LsLink{To: to, Cost: cost, Link: link}
	}
	g.hear(4, update(2, 0, ofRouter(0, 1, 9, 3)))
	g.has("mended", ofRouter(0, 1, 10, 0, link(2, 4), link(3, 6)))
	g.went("acknowledged, and what is mended is told to all", "4 ack router 0/1 #9 age 3", "4 update router 0/1 #10 age 1", "6 update router 0/1 #10 age 1")
	g.hear(4, update(2, 0, ofRouter(0, 1, 11, 3, link(2, 4), link(3, 6))))
	g.has("as it is wanted", ofRouter(0, 1, 11, 3, link(2, 4), link(3, 6)))
	g.settle()
	g.hear(4, update(2, 0, ofRouter(0, 1, 12, 40, link(2, 4), link(3, 6))))
	g.has("as it is wanted, but too old", ofRouter(0, 1, 13, 0, link(2, 4), link(3, 6)))
	g.hear(4, update(2, 0, ofRouter(0, 1, 13, api.MaxAge, link(2, 4), link(3, 6))))
	g.has("as it is wanted, but ended", ofRouter(0, 1, 14, 0, link(2, 4), link(3, 6)))
	other := ofRouter(0, 1, 15, 0, link(2, 4), link(3, 6))
	other.Stubs[0].Cost = 1
	g.hear(4, update(2, 0, other))
	g.has("another stub", ofRouter(0, 1, 16, 0, link(2, 4), link(3, 6)))
	g.settle()
	g.hear(8, update(4, 7, ofPrefix(7, 1, ten, 5, 1, 6), ofOuter(1, six, 5, 1, 6, 7)))
	g.keeps("not wanted", "router 0/1 #16 age 0", "router 7/1 #2 age 0", "summary 7/1 10.0.0.0/8 #5 age 120", "outer 1 6.0.0.0/8 #5 age 120")
	g.went("its end is told to the one that told it, too", "4 update outer 1 6.0.0.0/8 #5 age 120", "6 update outer 1 6.0.0.0/8 #5 age 120",
		"8 ack summary 7/1 10.0.0.0/8 #5 age 1", "8 ack outer 1 6.0.0.0/8 #5 age 1",
		"8 update summary 7/1 10.0.0.0/8 #5 age 120", "8 update outer 1 6.0.0.0/8 #5 age 120")
}

func TestG7NoGreaterNumber(t *testing.T) {
	g := begin(t, api.LsrConfig{ID: 1, Ports: []api.LsrPort{port(4, 0, 10)}})
	g.meet(4, 2)
	link := api.LsLink{To: 2, Cost: 10, Link: 4}
	last := ofRouter(0, 1, api.MaxSeq, 38, link)
	g.hear(4, update(2, 0, ofRouter(0, 1, api.MaxSeq-1, 0)), hello(2, 0, 1))
	g.has("up to the greatest", ofRouter(0, 1, api.MaxSeq, 0, link))
	g.settle()
	g.ticks(3)
	g.hear(4, hello(2, 0, 1))
	g.hear(4, update(2, 0, last))
	g.Take()
	for i := range 36 {
		g.hear(4, hello(2, 0, 1))
		g.Tick()
		g.has("it stays while it is young", ofRouter(0, 1, api.MaxSeq, 4+i, link))
	}
	g.Take()
	g.Tick()
	g.has("it ends", ofRouter(0, 1, api.MaxSeq, api.MaxAge, link))
	g.went("its end is told", "4 update router 0/1 #1073741824 age 120")
	g.Tick()
	g.went("once")
	g.hear(4, ack(2, 0, ofRouter(0, 1, api.MaxSeq, api.MaxAge, link)))
	g.keeps("all know of the end")
	g.refuses("Up", g.Up(4), api.ErrState)
	g.refuses("Down", g.Down(5), api.ErrNone)
	g.refuses("Hear", g.Hear(4, nil), api.ErrForm)
	g.refuses("Redistribute", g.Redistribute(make([]api.LsrExt, 2)), api.ErrTwice)
	g.keeps("what is refused renews nothing")
	g.went("nothing yet")
	g.hear(4, hello(3, 9, 0))
	g.has("a new beginning, though the packet does not count", ofRouter(0, 1, 1, 0, link))
	g.went("a new beginning", "4 update router 0/1 #1 age 1")
}

func TestG7NoGreaterNumberOtherBody(t *testing.T) {
	g := begin(t, api.LsrConfig{ID: 1, Ports: []api.LsrPort{port(4, 0, 10)}})
	g.meet(4, 2)
	g.hear(4, update(2, 0, ofRouter(0, 1, api.MaxSeq, 5)))
	g.has("another body ends at once", ofRouter(0, 1, api.MaxSeq, api.MaxAge))
	g.went("acknowledged, and its end is told", "4 ack router 0/1 #1073741824 age 5", "4 update router 0/1 #1073741824 age 120")
	g.hear(4, update(2, 0, ofRouter(0, 1, api.MaxSeq, 5)))
	g.went("what is older is told the end again", "4 update router 0/1 #1073741824 age 120")
}

func TestG8Forgotten(t *testing.T) {
	g := several(t)
	x := ofRouter(0, 9, 5, 7)
	g.hear(4, update(2, 0, x))
	g.settle()
	x.Age = api.MaxAge
	g.hear(6, update(3, 0, x))
	g.has("owed to one", x)
	g.hear(4, ack(2, 0, x))
	g.keeps("forgotten", "router 0/1 #3 age 0", "router 7/1 #2 age 0")
	g.hear(4, update(2, 0, ofRouter(0, 9, 1, 0)))
	g.has("a lower number is new", ofRouter(0, 9, 1, 0))
	g.settle()
	x.Seq = 1
	g.hear(4, update(2, 0, x))
	g.has("owed to the other one", x)
	g.Down(6)
	g.keeps("to whom nothing is owed any more", "router 0/1 #4 age 0", "router 7/1 #2 age 0")
	g.hear(4, update(2, 0, ofRouter(0, 9, 1, 0)), update(2, 0, x))
	g.keeps("owed to nobody at all", "router 0/1 #4 age 0", "router 7/1 #2 age 0")
}

func TestG8Alone(t *testing.T) {
	g := one(t)
	g.refuses("Redistribute", g.Redistribute([]api.LsrExt{outer(ten, 1, 2)}), api.OK)
	g.refuses("Redistribute nothing", g.Redistribute(nil), api.OK)
	g.keeps("forgotten at once", "router 0/1 #1 age 0")
	g.refuses("Redistribute", g.Redistribute([]api.LsrExt{outer(ten, 1, 2)}), api.OK)
	g.has("a new beginning", ofOuter(1, ten, 1, 0, 1, 2))
}

func TestG9Due(t *testing.T) {
	g := one(t)
	g.Tick()
	g.hear(4, hello(2, 0, 1))
	g.went("at once", "4 hello 2", "4 update router 0/1 #2 age 1")
	g.ticks(2)
	g.went("not due; a hello at the third tick", "4 hello 2", "6 hello 0")
	g.Tick()
	g.went("three ticks later", "4 update router 0/1 #2 age 4")
	g.hear(4, hello(2, 0, 1))
	g.Tick()
	g.went("not yet")
	g.ticks(2)
	g.went("three ticks later, with a hello ahead of it", "4 hello 2", "6 hello 0", "4 update router 0/1 #2 age 7")
}

func TestG9Order(t *testing.T) {
	g := begin(t, api.LsrConfig{ID: 1, Ports: []api.LsrPort{port(8, 0, 1), port(4, 0, 10), port(6, 0, 1), port(7, 0, 1)}})
	g.Down(7)
	g.hear(8, hello(2, 0, 1))
	g.hear(4, hello(3, 0, 1))
	g.ticks(2)
	g.Take()
	g.Tick()
	g.went("by rising link, a hello ahead of what is owed", "4 hello 3", "4 update router 0/1 #3 age 4", "6 hello 0", "8 hello 2", "8 update router 0/1 #3 age 4")
	g.hear(8, hello(5, 0, 1))
	g.hear(4, update(3, 0, ofRouter(0, 7, 1, 1), ofRouter(0, 1, 1, 0)))
	g.went("Take answers all, the earliest first", "4 update router 0/1 #4 age 1", "8 hello 5", "8 update router 0/1 #4 age 1",
		"4 ack router 0/7 #1 age 1", "4 update router 0/1 #4 age 1", "8 update router 0/7 #1 age 2")
	g.went("and nothing twice")
}

func TestG9Age(t *testing.T) {
	g := several(t)
	g.hear(4, update(2, 0, ofRouter(0, 9, 1, 118), ofRouter(0, 8, 1, 119)))
	g.went("one older, up to the greatest", "4 ack router 0/9 #1 age 118", "4 ack router 0/8 #1 age 119", "6 update router 0/8 #1 age 120", "6 update router 0/9 #1 age 119")
	g.has("the kept one is as old as it came", ofRouter(0, 9, 1, 118))
}

func TestG9GrowOld(t *testing.T) {
	g := several(t)
	g.ticks(1)
	g.hear(4, update(2, 0, ofRouter(0, 9, 1, 117), ofOuter(9, ten, 1, 117, 0, 0)))
	g.settle()
	g.ticks(2)
	g.keeps("not yet", "router 0/1 #3 age 3", "router 0/9 #1 age 119", "router 7/1 #2 age 3", "outer 9 10.0.0.0/8 #1 age 119")
	g.Take()
	g.Tick()
	g.keeps("ended", "router 0/1 #3 age 4", "router 0/9 #1 age 120", "router 7/1 #2 age 4", "outer 9 10.0.0.0/8 #1 age 120")
	g.went("it is told to all, where it came from too", "4 update router 0/9 #1 age 120", "4 update outer 9 10.0.0.0/8 #1 age 120",
		"6 update router 0/9 #1 age 120", "6 update outer 9 10.0.0.0/8 #1 age 120", "8 update outer 9 10.0.0.0/8 #1 age 120")
	g.Tick()
	g.went("once, and it grows no older")
}

func TestG10Base(t *testing.T) {
	g := begin(t, api.LsrConfig{ID: 1, Ports: []api.LsrPort{port(4, 9, 10), port(6, 7, 1)}, Stubs: []api.LsrStub{stub(7, six, 2)}})
	tell := func(what, want string) {
		t.Helper()
		same(t, "G10 "+what, []string{fmt.Sprint(g.Base())}, []string{want})
	}
	tell("alone", "{[{7 [] [{1 {1 32} 0} {1 {100663296 8} 2}] []} {9 [] [{1 {1 32} 0}] []}] []}")
	g.meet(4, 3)
	x := ofRouter(9, 3, 1, 0, api.LsLink{To: 8, Cost: 2, Link: 1}, api.LsLink{To: 1, Cost: 3, Link: 2})
	g.hear(4, update(3, 9, x, ofPrefix(9, 3, ten, 1, 1, 5), ofPrefix(9, 3, six, 1, 0, 4), ofOuter(3, six, 1, 0, 6, 7), ofOuter(2, ten, 1, 0, 8, 9)))
	tell("by order", "{[{7 [] [{1 {1 32} 0} {1 {100663296 8} 2}] []}"+
		" {9 [{1 3 10 4} {3 8 2 1} {3 1 3 2}] [{1 {1 32} 0} {3 {3 32} 0}] [{3 {100663296 8} 4} {3 {167772160 8} 5}]}]"+
		" [{2 {167772160 8} 8 9} {3 {100663296 8} 6 7}]}")
	same(t, "G10 ways", []string{fmt.Sprint(g.Ways())}, []string{"[{{1 32} 1 0 [] 0} {{3 32} 2 10 [4] 0} {{100663296 8} 1 2 [] 0} {{167772160 8} 3 15 [4] 0}]"})
	g.meet(6, 4)
	for _, gone := range []api.Lsa{x, ofPrefix(9, 3, ten, 1, 0, 5), ofOuter(3, six, 1, 0, 6, 7)} {
		gone.Age = api.MaxAge
		g.hear(4, hello(3, 9, 0), hello(3, 9, 1), update(3, 9, gone))
	}
	tell("what has ended does not count", "{[{7 [{1 4 1 6}] [{1 {1 32} 0} {1 {100663296 8} 2}] []}"+
		" {9 [{1 3 10 4}] [{1 {1 32} 0}] [{3 {100663296 8} 4}]}] [{2 {167772160 8} 8 9}]}")
}

func TestG10List(t *testing.T) {
	g := several(t)
	g.hear(4, update(2, 0, ofPrefix(0, 2, ten, 1, 1, 5), ofPrefix(0, 2, six, 1, 1, 5), ofRouter(0, 9, 1, 5), ofRouter(0, 8, 7, 6), ofOuter(1<<32-1, ten, 1, 0, 8, 9), ofOuter(2, ten, 1, 0, 8, 9)))
	g.keeps("by area, kind, origin, prefix", "router 0/1 #3 age 0", "router 0/8 #7 age 6", "router 0/9 #1 age 5", "summary 0/2 6.0.0.0/8 #1 age 1", "summary 0/2 10.0.0.0/8 #1 age 1",
		"router 7/1 #2 age 0", "outer 2 10.0.0.0/8 #1 age 0", "outer 4294967295 10.0.0.0/8 #1 age 0")
}

func TestG10Near(t *testing.T) {
	r, _ := lsr.New(api.LsrConfig{ID: 1, Ports: []api.LsrPort{port(8, 0, 1), port(4, 0, 10), port(0, 3, 1), port(65535, 0, 1)}})
	for _, link := range []int{65535, 8, 0} {
		r.Up(link)
	}
	same(t, "G10 those that are up, rising", r.Near(), []api.Near{{Link: 0}, {Link: 8}, {Link: 65535}})
}
