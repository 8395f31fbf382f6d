package lsa_test

import (
	"math/rand"

	"wayfinder/api"
)

func at(a uint32, n int) api.Prefix { return api.Prefix{Addr: a, Len: n} }

// aRouter, aSummary and anExternal are right ones of each kind.
func aRouter() api.Lsa {
	return api.Lsa{
		Kind: api.LsaRouter, Area: 3, Origin: 1, Seq: 2, Age: 5,
		Links: []api.LsLink{{To: 2, Cost: 7, Link: 0}, {To: 3, Cost: 65535, Link: 65535}},
		Stubs: []api.LsStub{{Prefix: at(1, 32)}, {Prefix: at(0x0a000000, 8), Cost: 4}},
	}
}

func aSummary() api.Lsa {
	return api.Lsa{Kind: api.LsaSummary, Area: 0, Origin: 9, Seq: 7, Age: 119, Prefix: at(0x0a000000, 8), Cost: 77}
}

func anExternal() api.Lsa {
	return api.Lsa{Kind: api.LsaExternal, Area: api.Everywhere, Origin: 1<<32 - 1, Seq: 9, Age: 120, Prefix: at(0x0b000000, 8), Cost: 5, Tag: 1<<32 - 1}
}

// manyItems gives a router announcement with so many links and stubs.
func manyItems(links, stubs int) api.Lsa {
	x := api.Lsa{Kind: api.LsaRouter, Area: 1, Origin: 99999, Seq: 1}
	for i := range links {
		x.Links = append(x.Links, api.LsLink{To: i + 1, Cost: i + 1, Link: 3 * i})
	}
	for i := range stubs {
		x.Stubs = append(x.Stubs, api.LsStub{Prefix: at(uint32(i)<<16, 16), Cost: i})
	}
	return x
}

// edge draws a number of a range, its ends often.
func edge(r *rand.Rand, least, most int) int {
	switch r.Intn(4) {
	case 0:
		return least
	case 1:
		return most
	}
	return least + r.Intn(most-least+1)
}

func drawPrefix(r *rand.Rand) api.Prefix {
	n := edge(r, 0, 32)
	return at(r.Uint32()&^uint32(1<<(32-n)-1), n)
}

// drawRight draws an announcement that is right.
func drawRight(r *rand.Rand) api.Lsa {
	x := api.Lsa{Origin: edge(r, 1, 1<<32-1), Seq: edge(r, 1, api.MaxSeq), Age: edge(r, 0, api.MaxAge)}
	switch x.Kind = 1 + r.Intn(3); x.Kind {
	case api.LsaRouter:
		x.Area = edge(r, 0, 65534)
		drawLists(r, &x)
		return x
	case api.LsaSummary:
		x.Area = edge(r, 0, 65534)
	case api.LsaExternal:
		x.Area, x.Tag = api.Everywhere, edge(r, 0, 1<<32-1)
	}
	x.Prefix, x.Cost = drawPrefix(r), edge(r, 0, api.MaxCost)
	return x
}

func drawLists(r *rand.Rand, x *api.Lsa) {
	links, stubs := r.Intn(5), r.Intn(5)
	if r.Intn(20) == 0 {
		links, stubs = api.MaxItems-r.Intn(2), api.MaxItems-r.Intn(2)
	}
	for i := range links {
		to := edge(r, 1, 1<<32-1)
		if to == x.Origin {
			to = 1 + to%100
		}
		x.Links = append(x.Links, api.LsLink{To: to, Cost: edge(r, 1, 65535), Link: i*1000 + edge(r, 0, 999)})
	}
	for i := range stubs {
		x.Stubs = append(x.Stubs, api.LsStub{Prefix: at(uint32(i)<<25, 7+r.Intn(26)), Cost: edge(r, 0, 65535)})
	}
}

// drawAny draws an announcement of small numbers, right or not, so that many are alike.
func drawAny(r *rand.Rand) api.Lsa {
	n := func() int { return r.Intn(3) - 1 }
	x := api.Lsa{Kind: n(), Area: n(), Origin: n(), Prefix: at(uint32(n()), n()), Seq: n(), Age: 119 + n(), Cost: n(), Tag: n()}
	for range r.Intn(3) {
		x.Links = append(x.Links, api.LsLink{To: n(), Cost: n(), Link: n()})
	}
	for range r.Intn(3) {
		x.Stubs = append(x.Stubs, api.LsStub{Prefix: at(uint32(n()), n()), Cost: n()})
	}
	return x
}

// near gives one whose list ends otherwise, or is the same.
func near(r *rand.Rand, x api.Lsa) api.Lsa {
	y := drawAny(r)
	y.Seq, y.Age = x.Seq, 100+r.Intn(30)
	if r.Intn(5) > 0 {
		y.Cost, y.Tag = x.Cost, x.Tag
		y.Links = append([]api.LsLink{}, x.Links[:r.Intn(len(x.Links)+1)]...)
	}
	if r.Intn(2) > 0 {
		y.Links = append([]api.LsLink{}, x.Links...)
		y.Stubs = append([]api.LsStub{}, x.Stubs[:r.Intn(len(x.Stubs)+1)]...)
	}
	return y
}
