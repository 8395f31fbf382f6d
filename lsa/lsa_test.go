package lsa_test

import (
	"math"
	"math/rand"
	"slices"
	"testing"

	"wayfinder/api"
	"wayfinder/lsa"
	"wayfinder/pfx"
)

// beyond are numbers that no field may have.
var beyond = []int{-1, math.MinInt, math.MaxInt, 1 << 32, 1<<32 + 1, -1 << 32}

// turn changes a copy, whose lists are its own.
func turn(x api.Lsa, f func(*api.Lsa)) api.Lsa {
	x.Links, x.Stubs = slices.Clone(x.Links), slices.Clone(x.Stubs)
	f(&x)
	return x
}

func right(t *testing.T, what string, want bool, x api.Lsa) {
	t.Helper()
	if is := lsa.Right(x); is != want {
		t.Errorf("%s: Right %+v: %v, must be %v", what, x, is, want)
	}
}

// fields tries each number in one field: it is right just from least to most.
func fields(t *testing.T, what string, x api.Lsa, least, most int, field func(*api.Lsa) *int) {
	t.Helper()
	for _, n := range append([]int{least - 1, least, most, most + 1, 0, 1}, beyond...) {
		y := turn(x, func(y *api.Lsa) { *field(y) = n })
		right(t, what, least <= n && n <= most, y)
	}
}

func TestF1AllKinds(t *testing.T) {
	for _, x := range []api.Lsa{aRouter(), aSummary(), anExternal()} {
		right(t, "as it is", true, x)
		fields(t, "origin", x, 1, 4294967295, func(y *api.Lsa) *int { return &y.Origin })
		fields(t, "seq", x, 1, 1<<30, func(y *api.Lsa) *int { return &y.Seq })
		fields(t, "age", x, 0, 120, func(y *api.Lsa) *int { return &y.Age })
		for _, kind := range append([]int{0, 1, 2, 3, 4, 255, 257, 258, 259}, beyond...) {
			right(t, "kind", kind == x.Kind, turn(x, func(y *api.Lsa) { y.Kind = kind }))
		}
	}
	right(t, "nothing", false, api.Lsa{})
}

func TestF1Router(t *testing.T) {
	x := aRouter()
	fields(t, "area", x, 0, 65534, func(y *api.Lsa) *int { return &y.Area })
	fields(t, "cost", x, 0, 0, func(y *api.Lsa) *int { return &y.Cost })
	fields(t, "tag", x, 0, 0, func(y *api.Lsa) *int { return &y.Tag })
	fields(t, "length", x, 0, 0, func(y *api.Lsa) *int { return &y.Prefix.Len })
	right(t, "an address", false, turn(x, func(y *api.Lsa) { y.Prefix.Addr = 1 }))
	right(t, "a prefix", false, turn(x, func(y *api.Lsa) { y.Prefix = at(0x0a000000, 8) }))
	right(t, "no lists", true, turn(x, func(y *api.Lsa) { y.Links, y.Stubs = nil, nil }))
}

func TestF1Links(t *testing.T) {
	x := aRouter()
	x.Links = []api.LsLink{{To: 2, Cost: 7, Link: 5}}
	fields(t, "cost", x, 1, 65535, func(y *api.Lsa) *int { return &y.Links[0].Cost })
	fields(t, "link", x, 0, 65535, func(y *api.Lsa) *int { return &y.Links[0].Link })
	x.Origin = 7
	fields(t, "to", x, 1, 4294967295, func(y *api.Lsa) *int { return &y.Links[0].To })
	right(t, "to itself", false, turn(x, func(y *api.Lsa) { y.Links[0].To = 7 }))
	x.Links = []api.LsLink{{To: 2, Cost: 1, Link: 0}, {To: 2, Cost: 1, Link: 3}, {To: 2, Cost: 1, Link: 65535}}
	right(t, "one neighbour over three", true, x)
	for _, n := range []int{0, 65535, 65536, -1} {
		right(t, "not rising", false, turn(x, func(y *api.Lsa) { y.Links[1].Link = n }))
	}
	for i := range x.Links {
		right(t, "each one counts: to", false, turn(x, func(y *api.Lsa) { y.Links[i].To = 0 }))
		right(t, "each one counts: itself", false, turn(x, func(y *api.Lsa) { y.Links[i].To = 7 }))
		right(t, "each one counts: cost", false, turn(x, func(y *api.Lsa) { y.Links[i].Cost = 65536 }))
	}
	x = manyItems(64, 64)
	right(t, "as many as can be", true, x)
	right(t, "a link too many", false, manyItems(65, 64))
	right(t, "a stub too many", false, manyItems(64, 65))
	right(t, "far too many", false, manyItems(64+256, 0))
}

func TestF1Stubs(t *testing.T) {
	x := aRouter()
	x.Stubs = []api.LsStub{{Prefix: at(0x0a000000, 8), Cost: 4}}
	fields(t, "cost", x, 0, 65535, func(y *api.Lsa) *int { return &y.Stubs[0].Cost })
	fields(t, "length", x, 7, 32, func(y *api.Lsa) *int { return &y.Stubs[0].Prefix.Len })
	right(t, "bits behind", false, turn(x, func(y *api.Lsa) { y.Stubs[0].Prefix.Addr++ }))
	x.Stubs = []api.LsStub{{Prefix: at(0, 0), Cost: 9}, {Prefix: at(0, 1)}, {Prefix: at(0x0a000000, 8)}, {Prefix: at(math.MaxUint32, 32)}}
	right(t, "in order", true, x)
	for i := range len(x.Stubs) - 1 {
		right(t, "twice", false, turn(x, func(y *api.Lsa) { y.Stubs[i+1].Prefix = y.Stubs[i].Prefix }))
		right(t, "not in order", false, turn(x, func(y *api.Lsa) { y.Stubs[i], y.Stubs[i+1] = y.Stubs[i+1], y.Stubs[i] }))
		right(t, "each one counts: cost", false, turn(x, func(y *api.Lsa) { y.Stubs[i+1].Cost = -1 }))
		right(t, "each one counts: prefix", false, turn(x, func(y *api.Lsa) { y.Stubs[i+1].Prefix.Len = 33 }))
	}
}

func TestF1OfPrefixes(t *testing.T) {
	for _, x := range []api.Lsa{aSummary(), anExternal()} {
		x.Prefix = at(0x0a000000, 8)
		fields(t, "cost", x, 0, 16777215, func(y *api.Lsa) *int { return &y.Cost })
		fields(t, "length", x, 7, 32, func(y *api.Lsa) *int { return &y.Prefix.Len })
		right(t, "bits behind", false, turn(x, func(y *api.Lsa) { y.Prefix.Addr++ }))
		right(t, "a link", false, turn(x, func(y *api.Lsa) { y.Links = aRouter().Links[:1] }))
		right(t, "a stub", false, turn(x, func(y *api.Lsa) { y.Stubs = aRouter().Stubs[:1] }))
		right(t, "empty lists", true, turn(x, func(y *api.Lsa) { y.Links, y.Stubs = []api.LsLink{}, []api.LsStub{} }))
		right(t, "the whole", true, turn(x, func(y *api.Lsa) { y.Prefix = api.Prefix{} }))
	}
	fields(t, "a summary's area", aSummary(), 0, 65534, func(y *api.Lsa) *int { return &y.Area })
	fields(t, "a summary's tag", aSummary(), 0, 0, func(y *api.Lsa) *int { return &y.Tag })
	fields(t, "an external one's area", anExternal(), 65535, 65535, func(y *api.Lsa) *int { return &y.Area })
	fields(t, "an external one's tag", anExternal(), 0, 4294967295, func(y *api.Lsa) *int { return &y.Tag })
}

// both asks for two announcements both ways round.
func both(t *testing.T, what string, ask func(x, y api.Lsa) int, x, y api.Lsa, want int) {
	t.Helper()
	if is, back := ask(x, y), ask(y, x); is != want || back != -want {
		t.Errorf("%s of\n%+v\n%+v: %d and back %d, must be %d and %d", what, x, y, is, back, want, -want)
	}
}

func TestF2Order(t *testing.T) {
	// By rising keys; each of them differs from the one ahead in a field that counts more than those behind it.
	keys := []api.Lsa{
		{Area: math.MinInt, Kind: 9, Origin: 9, Prefix: at(9, 9)},
		{Area: 0, Kind: 3, Origin: 9, Prefix: at(9, 9)},
		{Area: 1, Kind: -1, Origin: 9, Prefix: at(9, 9)},
		{Area: 1, Kind: 1, Origin: 9, Prefix: at(9, 9)},
		{Area: 1, Kind: 2, Origin: -3, Prefix: at(9, 9)},
		{Area: 1, Kind: 2, Origin: 1, Prefix: at(9, 9)},
		{Area: 1, Kind: 2, Origin: 2, Prefix: at(8, 9)},
		{Area: 1, Kind: 2, Origin: 2, Prefix: at(9, -4)},
		{Area: 1, Kind: 2, Origin: 2, Prefix: at(9, 7)},
		{Area: 1, Kind: 2, Origin: 2, Prefix: at(9, 33)},
		{Area: 1, Kind: 2, Origin: 2, Prefix: at(0xfffffff0, 0)},
		{Area: math.MaxInt, Kind: 0, Origin: 0, Prefix: at(0, 0)},
	}
	for i, x := range keys {
		for k, y := range keys {
			want := 0
			if i != k {
				want = 1 - 2*btoi(i < k)
			}
			both(t, "Order", lsa.Order, x, y, want)
		}
		full := turn(x, func(y *api.Lsa) {
			y.Seq, y.Age, y.Cost, y.Tag, y.Links, y.Stubs = 3, 4, 5, 6, aRouter().Links, aRouter().Stubs
		})
		both(t, "Order without what is no key", lsa.Order, x, full, 0)
	}
}

func btoi(b bool) int {
	if b {
		return 1
	}
	return 0
}

// modelNewer writes out what counts, in its turn, as one list of numbers with marks where lists end.
func modelNewer(x, y api.Lsa) int {
	of := func(x api.Lsa) []int {
		out := []int{x.Seq, btoi(x.Age >= 120), x.Cost, x.Tag}
		for _, l := range x.Links {
			out = append(out, 1, l.To, l.Cost, l.Link)
		}
		out = append(out, 0)
		for _, s := range x.Stubs {
			out = append(out, 1, int(s.Prefix.Addr), s.Prefix.Len, s.Cost)
		}
		return append(out, 0)
	}
	return slices.Compare(of(x), of(y))
}

func TestF3AgainstModel(t *testing.T) {
	r := rand.New(rand.NewSource(3))
	counts := map[int]int{}
	for range 100000 {
		x, y := drawAny(r), drawAny(r)
		if r.Intn(2) == 0 {
			y = near(r, x)
		}
		want := modelNewer(x, y)
		counts[want]++
		both(t, "Newer", lsa.Newer, x, y, want)
	}
	if counts[0] < 1000 || counts[1] < 1000 || counts[-1] < 1000 {
		t.Errorf("too few of a kind: %v", counts)
	}
}

func TestF3SeqAndAge(t *testing.T) {
	x := aRouter()
	newer := func(what string, want int, f func(*api.Lsa)) {
		t.Helper()
		both(t, what, lsa.Newer, turn(x, f), x, want)
	}
	for _, a := range []int{0, 1, 119, -1, -120, -240, math.MinInt} {
		newer("an age below", 0, func(y *api.Lsa) { y.Age = a })
	}
	for _, a := range []int{120, 121, 240, math.MaxInt} {
		newer("the end of age", 1, func(y *api.Lsa) { y.Age = a })
		newer("the end of age, a lesser body", 1, func(y *api.Lsa) { y.Age, y.Cost, y.Tag, y.Links, y.Stubs = a, -1, -1, nil, nil })
		newer("the end of age, a lesser seq", -1, func(y *api.Lsa) { y.Age, y.Seq = a, x.Seq-1 })
		newer("a greater seq, whatever age and body", 1, func(y *api.Lsa) { y.Seq, y.Cost, y.Links = x.Seq+1, -1, nil })
	}
	old := turn(x, func(y *api.Lsa) { y.Age = 120 })
	both(t, "both at the end", lsa.Newer, old, turn(old, func(y *api.Lsa) { y.Age = math.MaxInt }), 0)
	both(t, "both at the end, the bodies decide", lsa.Newer, old, turn(old, func(y *api.Lsa) { y.Age, y.Tag = 130, -1 }), 1)
	newer("another key", 0, func(y *api.Lsa) { y.Kind, y.Area, y.Origin, y.Prefix = 9, 9, 9, at(9, 9) })
}

func TestF3Bodies(t *testing.T) {
	x := aRouter()
	newer := func(what string, want int, f func(*api.Lsa)) {
		t.Helper()
		both(t, what, lsa.Newer, turn(x, f), x, want)
	}
	newer("cost ahead of tag", 1, func(y *api.Lsa) { y.Cost, y.Tag = 1, -1 })
	newer("tag ahead of links", 1, func(y *api.Lsa) { y.Tag, y.Links = 1, nil })
	newer("links ahead of stubs", 1, func(y *api.Lsa) { y.Links[1].Cost++; y.Stubs = nil })
	newer("to ahead of cost", 1, func(y *api.Lsa) { y.Links[0].To++; y.Links[0].Cost = 0 })
	newer("cost ahead of link", 1, func(y *api.Lsa) { y.Links[0].Cost++; y.Links[0].Link = -1 })
	newer("link", 1, func(y *api.Lsa) { y.Links[0].Link++ })
	newer("the first unequal link", 1, func(y *api.Lsa) { y.Links[0].Link++; y.Links[1].To = 0 })
	newer("the first link, not how many", 1, func(y *api.Lsa) { y.Links = y.Links[:1]; y.Links[0].Link++ })
	newer("fewer links", -1, func(y *api.Lsa) { y.Links = y.Links[:1] })
	newer("more links", 1, func(y *api.Lsa) { y.Links = append(y.Links, api.LsLink{To: -9}) })
	newer("addr ahead of length", 1, func(y *api.Lsa) { y.Stubs[1].Prefix = at(0x0a000001, -1) })
	newer("addr as it is, not as a number with a sign", 1, func(y *api.Lsa) { y.Stubs[1].Prefix.Addr = 0xf0000000 })
	newer("length ahead of cost", 1, func(y *api.Lsa) { y.Stubs[1].Prefix.Len++; y.Stubs[1].Cost = -1 })
	newer("a stub's cost", -1, func(y *api.Lsa) { y.Stubs[1].Cost-- })
	newer("the first unequal stub", 1, func(y *api.Lsa) { y.Stubs[0].Cost++; y.Stubs[1].Prefix.Addr = 0 })
	newer("fewer stubs", -1, func(y *api.Lsa) { y.Stubs = y.Stubs[:1] })
	none, empty := api.Lsa{}, api.Lsa{Links: []api.LsLink{}, Stubs: []api.LsStub{}}
	both(t, "none and empty lists", lsa.Newer, none, empty, 0)
}

func TestF1F3PrefixOrder(t *testing.T) {
	r := rand.New(rand.NewSource(4))
	for range 2000 {
		p, q := drawPrefix(r), drawPrefix(r)
		x := api.Lsa{Kind: api.LsaRouter, Origin: 1, Seq: 1, Stubs: []api.LsStub{{Prefix: p}, {Prefix: q}}}
		right(t, "two stubs", pfx.Order(p, q) < 0, x)
	}
}
