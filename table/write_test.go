package table_test

import (
	"slices"
	"testing"

	"wayfinder/api"
	"wayfinder/fib"
)

func TestM4Numbers(t *testing.T) {
	g := made(t)
	g.leads("nothing", 7, 0)
	// In order of the first prefix that has a set, not as they are handed in; the empty set has a number too.
	g.takeWays(way(twelve, api.WayIntra, 1, 1), way(eleven, api.WayIntra, 1, 2, 3), way(ten, api.WayIntra, 1, 1), way(seven, api.WayLocal, 0), way(tenOne, api.WayIntra, 1), way(every, api.WayIntra, 1, 3))
	g.leads("the first", 9, 1, 3)
	g.leads("the empty set", 7, 2)
	g.leads("the empty set, again", 0x0a010000, 2)
	g.leads("behind it", 0x0a000000, 3, 1)
	g.leads("the last new one", 0x0b000000, 4, 2, 3)
	g.leads("one that has a number", 0x0c000000, 3, 1)
	// One set is lost, one goes to another prefix: it keeps its number. What is new gets none that was in use.
	g.takeWays(way(seven, api.WayIntra, 1, 2, 3), way(eight, api.WayIntra, 1, 5), way(ten, api.WayIntra, 1, 6), way(eleven, api.WayIntra, 2, 3))
	g.leads("kept", 7, 4, 2, 3)
	g.leads("kept, too", 0x0b000000, 1, 3)
	g.leads("new", 8, 5, 5)
	g.leads("new, too", 0x0a000000, 6, 6)
	for _, n := range []int{-1, 0, 2, 3, 7, 1 << 40, -1 << 40} {
		if got := g.Links(n); len(got) != 0 {
			t.Errorf("the links of %d are %v", n, got)
		}
	}
	// By the next call those are free.
	g.takeWays(way(seven, api.WayIntra, 1, 2, 3), way(eight, api.WayIntra, 1, 5), way(ten, api.WayIntra, 1, 7), way(eleven, api.WayIntra, 2, 1), way(twelve, api.WayIntra, 2, 8))
	g.leads("free again", 0x0a000000, 2, 7)
	g.leads("a set that is there again has a new number", 0x0b000000, 3, 1)
	g.leads("the next one is beyond all", 0x0c000000, 7, 8)
}

// TestM4RowsAlone: a set has a number by a row that holds, not by one that a lesser kind hides.
func TestM4RowsAlone(t *testing.T) {
	g := made(t)
	g.takeFixed(over(ten, 9))
	g.takeWays(way(ten, api.WayIntra, 1, 1), way(eleven, api.WayIntra, 1, 2))
	g.leads("the row that holds", 0x0a000000, 1, 9)
	g.leads("the next one", 0x0b000000, 2, 2)
	if got := g.Links(3); len(got) != 0 {
		t.Errorf("a set that no row has has a number: %v", got)
	}
	g.takeFixed()
	g.leads("hidden no more", 0x0a000000, 3, 1)
}

// TestM4AllSides: sets are the same from whatever side they come.
func TestM4AllSides(t *testing.T) {
	g := made(t)
	g.takeWays(way(ten, api.WayIntra, 1, 2, 1, 2))
	g.takeFixed(over(eleven, 1, 2))
	g.takeOffers(outer(twelve, 0x0b000001, 1))
	for _, a := range []uint32{0x0a000000, 0x0b000000, 0x0c000000} {
		g.leads("one set", a, 1, 1, 2)
	}
	if len(g.takeWays(way(ten, api.WayLocal, 0))) == 0 {
		t.Error("no write")
	}
	g.leads("kept by others", 0x0b000000, 1, 1, 2)
	g.leads("the empty one", 0x0a000000, 2)
}

// TestM5NoWrite: where all prefixes lead where they led nothing is written, though kinds, costs or the sides themselves are others.
func TestM5NoWrite(t *testing.T) {
	g := made(t)
	if g.takeWays() != nil || g.takeFixed() != nil || g.takeOffers() != nil {
		t.Error("there is a write for nothing")
	}
	g.takeWays(way(ten, api.WayIntra, 1, 1, 2), way(seven, api.WayLocal, 0), way(eight, api.WayIntra, 1, 3))
	still := func(what string, writes []api.Write) {
		t.Helper()
		if len(writes) != 0 {
			t.Errorf("%s: %v is written", what, writes)
		}
	}
	still("in another order", g.takeWays(way(eight, api.WayIntra, 1, 3), way(seven, api.WayIntra, 0), way(ten, api.WayInter, 7, 2, 1, 1)))
	still("fixed", g.takeFixed(over(ten, 1, 2), to(eight, 8), to(twelve, 9)))
	still("offered", g.takeOffers(outer(eight, 8, 2), inner(ten, 8, 2)))
	still("no way any more", g.takeWays(way(seven, api.WayLocal, 4), way(eight, api.WayIntra, 3, 3)))
}

// TestM5Order: sets first, the longest prefix first of all; then what is dropped, the shortest first.
func TestM5Order(t *testing.T) {
	g := made(t)
	like := fib.New()
	var want []api.Write
	add := func(l []api.Write, e api.Errno) {
		t.Helper()
		if e != api.OK {
			t.Fatal(e)
		}
		want = append(want, l...)
	}
	writes := func(what string, got []api.Write) {
		t.Helper()
		if !slices.Equal(got, want) {
			t.Errorf("%s: it writes\n%v\nand must write\n%v", what, got, want)
		}
		want = nil
	}
	add(like.Set(seven, 2))
	add(like.Set(eight, 3))
	add(like.Set(tenOne, 5))
	add(like.Set(ten, 4))
	add(like.Set(eleven, 5))
	add(like.Set(every, 1))
	writes("all are new", g.takeWays(way(every, api.WayIntra, 1, 1), way(ten, api.WayIntra, 1, 4), way(eleven, api.WayIntra, 1, 5), way(eight, api.WayIntra, 1, 3), way(seven, api.WayIntra, 1, 2), way(tenOne, api.WayIntra, 1, 5)))
	// Here every and eight lead elsewhere, twelve and tenLow are new, seven stays, the others go.
	add(like.Set(eight, 5))
	add(like.Set(tenLow, 2))
	add(like.Set(twelve, 6))
	add(like.Set(every, 4))
	add(like.Drop(ten))
	add(like.Drop(eleven))
	add(like.Drop(tenOne))
	writes("some", g.takeWays(way(every, api.WayIntra, 1, 4), way(seven, api.WayIntra, 1, 2), way(eight, api.WayIntra, 1, 5), way(tenLow, api.WayIntra, 1, 2), way(twelve, api.WayIntra, 1, 9)))
	add(like.Drop(every))
	add(like.Drop(twelve))
	add(like.Drop(tenLow))
	add(like.Drop(seven))
	add(like.Drop(eight))
	writes("none", g.takeWays())
}

// nested gives prefixes within each other that hold an address, one for each length of a list.
func nested(a uint32, lengths ...int) []api.Prefix {
	var out []api.Prefix
	for _, n := range lengths {
		out = append(out, pre(uint32(uint64(a)>>(32-n)<<(32-n)), n))
	}
	return out
}

// TestM6Nested: prefixes within each other come, turn and go at once. (The rig asks at each moment; here it is told what addresses lie at their edges.)
func TestM6Nested(t *testing.T) {
	const a = 0x0a5a1234
	chain := nested(a, 0, 3, 8, 9, 17, 24, 31, 32)
	asks := []uint32{a}
	for _, p := range chain {
		asks = append(asks, p.Addr, p.Addr-1, p.Addr+uint32(uint64(1)<<(32-p.Len)-1), p.Addr+uint32(uint64(1)<<(32-p.Len)))
	}
	g := made(t, asks...)
	some := func(which, set int) []api.Way {
		var out []api.Way
		for i, p := range chain {
			if which>>i&1 == 1 {
				out = append(out, way(p, api.WayIntra, 1, i%2+set))
			}
		}
		return out
	}
	for i := range 400 {
		g.takeWays(some(i*37%256, i%3)...)
	}
	g.takeWays(some(255, 0)...)
	for i := range 400 {
		g.takeFixed()
		var l []api.Fixed
		for k, p := range chain {
			if i*53%256>>k&1 == 1 {
				l = append(l, over(p, 7+(i+k)%3))
			}
		}
		g.takeFixed(l...)
	}
}
