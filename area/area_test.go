package area_test

import (
	"math"
	"math/rand"
	"slices"
	"testing"

	"wayfinder/api"
	"wayfinder/area"
)

var (
	ten = at(0x0a000000, 8)
	six = at(0x06000000, 8)
)

func way(p api.Prefix, kind, cost int, links ...int) api.Way {
	return api.Way{Prefix: p, Kind: kind, Cost: cost, Links: links}
}

func sum(area int, p api.Prefix, cost int) api.AreaSum {
	return api.AreaSum{Area: area, Prefix: p, Cost: cost}
}

func TestE1E2E3AgainstModel(t *testing.T) {
	r := rand.New(rand.NewSource(1))
	for range 5000 {
		b := draw(r)
		self := r.Intn(6) - r.Intn(2)
		m := model{b, self}
		ways(t, "E2", b, self, m.ways()...)
		sums(t, "E3", b, self, m.sums()...)
	}
}

func TestE1Areas(t *testing.T) {
	first := api.AreaBase{Area: 5, Edges: wire(1, 0, 3, 2, 0, 3), Stubs: []api.Stub{stub(2, ten, 1)}}
	other := api.AreaBase{Area: 5, Edges: wire(1, 0, 1, 2, 0, 1), Stubs: []api.Stub{stub(1, ten, 0), stub(2, six, 0)}}
	ways(t, "the first of one number", api.Base{Areas: []api.AreaBase{first, other}}, 1, way(ten, api.WayIntra, 4, 0))
	ways(t, "the other way round", api.Base{Areas: []api.AreaBase{other, first}}, 1, way(six, api.WayIntra, 1, 0), way(ten, api.WayLocal, 0))
	ways(t, "none", api.Base{Exts: []api.Ext{ext(2, ten, 1, 1)}}, 1)
	for _, n := range []int{-1, 65536, math.MinInt, math.MaxInt} {
		first.Area = n
		b := api.Base{Areas: []api.AreaBase{first, {Area: 0}}}
		ways(t, "any number", b, 1, way(ten, api.WayIntra, 4, 0))
		sums(t, "any number", b, 1, sum(0, ten, 4))
	}
}

func TestE1Counts(t *testing.T) {
	edges := slices.Concat(wire(1, 0, 1, 2, 0, 1), wire(1, 1, 1, 1<<32-1, 0, 1), wire(1, 2, 1, 0, 0, 1))
	base := func(stubs, sums []api.Stub, exts ...api.Ext) api.Base {
		return api.Base{Areas: []api.AreaBase{{Area: 3, Edges: edges, Stubs: stubs, Sums: sums}}, Exts: exts}
	}
	for _, s := range []api.Stub{
		stub(2, at(1, 31), 0), stub(2, at(0, -1), 0), stub(2, at(0, 33), 0), stub(2, at(0x0a000001, 8), 0),
		stub(-1, ten, 0), stub(1<<32, ten, 0), stub(2+1<<32, ten, 0), stub(math.MinInt, ten, 0), stub(math.MaxInt, ten, 0),
		stub(2, ten, -1), stub(2, ten, 16777216), stub(2, ten, math.MinInt), stub(2, ten, math.MaxInt),
	} {
		ways(t, "a wrong stub", base([]api.Stub{s}, nil), 1)
		ways(t, "a wrong sum", base(nil, []api.Stub{s}), 1)
		ways(t, "a wrong stub of self", base([]api.Stub{s}, nil), s.Node)
		own := []api.Stub{stub(2, at(2, 32), 0)}
		ways(t, "a wrong outer prefix", base(own, nil, ext(s.Node, s.Prefix, s.Cost, 0)), 1, way(at(2, 32), api.WayIntra, 1, 0))
	}
	for _, tag := range []int{-1, 1 << 32, math.MinInt, math.MaxInt} {
		ways(t, "a wrong tag", base([]api.Stub{stub(2, at(2, 32), 0)}, nil, ext(2, ten, 0, tag)), 1, way(at(2, 32), api.WayIntra, 1, 0))
	}
	ways(t, "a stub too dear", base([]api.Stub{stub(2, ten, 65536)}, nil), 1)
	ways(t, "a stub as dear as can be", base([]api.Stub{stub(2, ten, 65535)}, nil), 1, way(ten, api.WayIntra, 65536, 0))
	ways(t, "a sum as dear as can be", base(nil, []api.Stub{stub(2, ten, api.MaxCost)}), 1, way(ten, api.WayInter, api.MaxCost+1, 0))
	ways(t, "another one's own prefix", base([]api.Stub{stub(2, at(3, 32), 0), stub(1, at(2, 32), 0)}, nil), 1)
	ways(t, "a sum of it", base(nil, []api.Stub{stub(2, at(3, 32), 0)}), 1, way(at(3, 32), api.WayInter, 1, 0))
	last := at(math.MaxUint32, 32)
	ways(t, "the least and the greatest number", base([]api.Stub{stub(1<<32-1, last, 0), stub(0, at(0, 32), 0)}, nil), 1,
		way(at(0, 32), api.WayIntra, 1, 2), way(last, api.WayIntra, 1, 1))
	outer := way(ten, api.WayExternal, api.MaxCost, 1)
	outer.Tag = 1<<32 - 1
	ways(t, "an outer prefix of the greatest numbers", base([]api.Stub{stub(1<<32-1, last, 0)}, nil, ext(1<<32-1, ten, api.MaxCost, 1<<32-1)), 1,
		outer, way(last, api.WayIntra, 1, 1))
}

func TestE2Kinds(t *testing.T) {
	a := api.AreaBase{Area: 4, Edges: slices.Concat(wire(1, 0, 9, 2, 0, 1), wire(1, 1, 9, 3, 0, 1))}
	b := api.Base{Exts: []api.Ext{ext(3, ten, 0, 7)}}
	own := stub(3, at(3, 32), 0)
	known := way(at(3, 32), api.WayIntra, 9, 1)
	put := func(a api.AreaBase) api.Base { return api.Base{Areas: []api.AreaBase{a}, Exts: b.Exts} }
	ways(t, "no way to where it leads out", put(a), 1)
	a.Stubs = []api.Stub{own}
	outer := way(ten, api.WayExternal, 0, 1)
	outer.Tag = 7
	ways(t, "external", put(a), 1, known, outer)
	a.Sums = []api.Stub{stub(2, ten, 50)}
	ways(t, "inter, though external costs less", put(a), 1, known, way(ten, api.WayInter, 59, 0))
	a.Stubs = []api.Stub{own, stub(3, ten, 600)}
	ways(t, "intra, though inter costs less", put(a), 1, known, way(ten, api.WayIntra, 609, 1))
	a.Stubs = []api.Stub{own, stub(3, ten, 6), stub(1, ten, 7000), stub(1, ten, 900), stub(1, ten, 901)}
	ways(t, "local, though intra costs less", put(a), 1, known, way(ten, api.WayLocal, 900))
}

func TestE2Least(t *testing.T) {
	one := api.AreaBase{Area: 1, Edges: slices.Concat(wire(1, 8, 2, 2, 0, 1), wire(1, 3, 1, 3, 0, 1), wire(1, 5, 2, 2, 1, 1)), Stubs: []api.Stub{stub(2, ten, 0), stub(3, ten, 1)}}
	two := api.AreaBase{Area: 2, Edges: wire(1, 4, 1, 2, 0, 1), Stubs: []api.Stub{stub(2, ten, 1), stub(2, six, 9), stub(7, ten, 0)}}
	b := api.Base{Areas: []api.AreaBase{one, two}}
	ways(t, "even ones of all areas", b, 1, way(six, api.WayIntra, 10, 4), way(ten, api.WayIntra, 2, 3, 4, 5, 8))
	b.Areas[1].Stubs[0].Cost = 0
	ways(t, "one that costs less", b, 1, way(six, api.WayIntra, 10, 4), way(ten, api.WayIntra, 1, 4))
}

func TestE2Inter(t *testing.T) {
	one := api.AreaBase{Area: 1, Edges: wire(1, 1, 1, 2, 0, 1), Sums: []api.Stub{stub(2, ten, 3), stub(1, six, 0), stub(9, six, 1)}}
	two := api.AreaBase{Area: 2, Edges: wire(1, 2, 2, 3, 0, 1), Sums: []api.Stub{stub(3, ten, 2)}}
	ways(t, "all areas, where area 0 is not there", api.Base{Areas: []api.AreaBase{one, two}}, 1, way(ten, api.WayInter, 4, 1, 2))
	ways(t, "area 0 alone", api.Base{Areas: []api.AreaBase{one, two, {Area: 0}}}, 1)
	two.Area = 0
	two.Sums[0].Cost = 70
	ways(t, "area 0 alone, though another costs less", api.Base{Areas: []api.AreaBase{one, two}}, 1, way(ten, api.WayInter, 72, 2))
}

func TestE2External(t *testing.T) {
	a := api.AreaBase{Area: 0, Edges: slices.Concat(wire(1, 1, 9, 2, 0, 9), wire(1, 2, 1, 3, 0, 1), wire(1, 4, 1, 4, 0, 1)),
		Stubs: []api.Stub{stub(1, at(1, 32), 0), stub(2, at(2, 32), 5), stub(3, at(3, 32), 0)},
		Sums:  []api.Stub{stub(3, at(8, 32), 1), stub(3, at(4, 32), 1), stub(4, at(4, 32), 1)}}
	own := []api.Way{way(at(2, 32), api.WayIntra, 14, 1), way(at(3, 32), api.WayIntra, 1, 2), way(at(4, 32), api.WayInter, 2, 2, 4)}
	ask := func(what string, want api.Way, tag int, exts ...api.Ext) {
		t.Helper()
		want.Tag = tag
		ways(t, what, api.Base{Areas: []api.AreaBase{a}, Exts: exts}, 1,
			append(append([]api.Way{way(at(1, 32), api.WayLocal, 0)}, own...), way(at(8, 32), api.WayInter, 2, 2), want)...)
	}
	ask("the least cost, not the nearest router", way(ten, api.WayExternal, 4, 1), 9, ext(3, ten, 5, 1), ext(2, ten, 4, 9), ext(3, ten, 6, 0))
	ask("then the least router", way(ten, api.WayExternal, 4, 1), 9, ext(3, ten, 4, 1), ext(2, ten, 4, 9), ext(8, ten, 4, 0))
	ask("then the least tag", way(ten, api.WayExternal, 4, 2), 3, ext(3, ten, 4, 5), ext(3, ten, 4, 3), ext(3, ten, 4, 4))
	ask("not self's", way(ten, api.WayExternal, 4, 2), 5, ext(1, ten, 0, 0), ext(3, ten, 4, 5))
	ask("not one to which no way leads", way(ten, api.WayExternal, 4, 2), 5, ext(7, ten, 0, 0), ext(3, ten, 4, 5))
	ask("over an inter way", way(ten, api.WayExternal, 4, 2, 4), 5, ext(4, ten, 4, 5))
	ask("to a router of an area that is not known", way(ten, api.WayExternal, 4, 2), 5, ext(8, ten, 4, 5))
	ask("not over an external way", way(at(9, 32), api.WayExternal, 0, 2), 0, ext(3, at(9, 32), 0, 0), ext(9, ten, 0, 0))
}

func TestE3Example(t *testing.T) {
	zero := api.AreaBase{Area: 0, Edges: wire(1, 0, 10, 2, 0, 10)}
	three := at(0x0a030000, 16)
	seven := api.AreaBase{Area: 7, Edges: wire(2, 1, 10, 3, 0, 10), Stubs: []api.Stub{stub(3, three, 1)}}
	sums(t, "the example", api.Base{Areas: []api.AreaBase{seven, zero}}, 2, sum(0, three, 11))
	zero.Sums = []api.Stub{stub(2, three, 11)}
	ways(t, "the example", api.Base{Areas: []api.AreaBase{zero}}, 1, way(three, api.WayInter, 21, 0))
	sums(t, "a router of one area", api.Base{Areas: []api.AreaBase{zero}}, 1)
	sums(t, "a router of one area that is listed twice", api.Base{Areas: []api.AreaBase{zero, zero}}, 1)
	zero.Area = 6
	sums(t, "a router that is not in area 0", api.Base{Areas: []api.AreaBase{seven, zero}}, 2)
	sums(t, "nothing", api.Base{}, 2)
}

func TestE3From(t *testing.T) {
	zero := api.AreaBase{Area: 0, Edges: wire(2, 0, 10, 1, 0, 10)}
	five := api.AreaBase{Area: 5, Edges: wire(2, 1, 10, 3, 0, 10)}
	seven := api.AreaBase{Area: 7, Edges: wire(2, 2, 10, 4, 0, 10)}
	ask := func(what string, stubs [3][]api.Stub, want ...api.AreaSum) {
		t.Helper()
		zero.Stubs, five.Stubs, seven.Stubs = stubs[0], stubs[1], stubs[2]
		sums(t, what, api.Base{Areas: []api.AreaBase{seven, zero, five}}, 2, want...)
	}
	l := func(s ...api.Stub) []api.Stub { return s }
	ask("an intra way of area 0", [3][]api.Stub{l(stub(1, ten, 1))}, sum(5, ten, 11), sum(7, ten, 11))
	ask("an intra way of another one", [3][]api.Stub{nil, l(stub(3, ten, 1))}, sum(0, ten, 11), sum(7, ten, 11))
	ask("an intra way of two", [3][]api.Stub{nil, l(stub(3, ten, 1)), l(stub(4, ten, 1))}, sum(0, ten, 11))
	ask("one that is not the least does not count", [3][]api.Stub{nil, l(stub(3, ten, 2), stub(3, ten, 3)), l(stub(4, ten, 1))}, sum(0, ten, 11), sum(5, ten, 11))
	ask("an intra way of all", [3][]api.Stub{l(stub(1, ten, 1)), l(stub(3, ten, 1)), l(stub(4, ten, 1))})
	ask("a local way", [3][]api.Stub{nil, l(stub(2, ten, 4))}, sum(0, ten, 4), sum(7, ten, 4))
	ask("a local way of two areas, whatever it costs", [3][]api.Stub{nil, l(stub(2, ten, 4)), l(stub(2, ten, 9))}, sum(0, ten, 4))
	ask("the dearer one first", [3][]api.Stub{nil, l(stub(2, ten, 9)), l(stub(2, ten, 4))}, sum(0, ten, 4))
	ask("a stub that does not count", [3][]api.Stub{nil, l(stub(2, ten, 4)), l(stub(2, ten, -1), stub(2, ten, 65536))}, sum(0, ten, 4), sum(7, ten, 4))
	ask("a local way where others have it too", [3][]api.Stub{l(stub(1, ten, 0)), l(stub(2, ten, 9)), l(stub(4, ten, 0))}, sum(0, ten, 9), sum(7, ten, 9))
	ask("by area, then in order", [3][]api.Stub{nil, l(stub(3, ten, 1), stub(3, six, 1)), l(stub(4, at(3<<24, 8), 1))},
		sum(0, at(3<<24, 8), 11), sum(0, six, 11), sum(0, ten, 11), sum(5, at(3<<24, 8), 11), sum(7, six, 11), sum(7, ten, 11))
}

func TestE3Inter(t *testing.T) {
	zero := api.AreaBase{Area: 0, Edges: wire(2, 0, 10, 1, 0, 10), Stubs: []api.Stub{stub(1, at(1, 32), 0)}, Sums: []api.Stub{stub(1, ten, api.MaxCost-10), stub(1, six, api.MaxCost-9)}}
	five := api.AreaBase{Area: 5, Edges: wire(2, 1, 10, 3, 0, 10), Sums: []api.Stub{stub(3, at(0, 0), 1)}}
	b := api.Base{Areas: []api.AreaBase{zero, five, {Area: -4}}, Exts: []api.Ext{ext(1, at(3<<24, 8), 0, 0)}}
	ways(t, "what costs more than is told", b, 2, way(at(1, 32), api.WayIntra, 10, 0), way(at(3<<24, 8), api.WayExternal, 0, 0),
		way(six, api.WayInter, api.MaxCost+1, 0), way(ten, api.WayInter, api.MaxCost, 0))
	sums(t, "inter ways: not to area 0; no external ones; none too dear", b, 2,
		sum(-4, at(1, 32), 10), sum(-4, ten, api.MaxCost), sum(5, at(1, 32), 10), sum(5, ten, api.MaxCost))
}

// TestE3Dear: an intra way that costs as much as is told, and one that costs more.
func TestE3Dear(t *testing.T) {
	var edges []api.Edge
	for i := range 256 {
		edges = append(edges, wire(i, 0, 65535, i+1, 1, 1)...)
	}
	a := api.AreaBase{Area: 5, Edges: edges, Stubs: []api.Stub{stub(256, ten, 255), stub(256, six, 256)}}
	b := api.Base{Areas: []api.AreaBase{{Area: 0}, a}}
	sums(t, "the greatest cost", b, 0, sum(0, ten, api.MaxCost))
	ways(t, "both are known", b, 0, way(six, api.WayIntra, api.MaxCost+1, 0), way(ten, api.WayIntra, api.MaxCost, 0))
}

func cloneBase(b api.Base) api.Base {
	areas := slices.Clone(b.Areas)
	for i, a := range areas {
		areas[i] = api.AreaBase{Area: a.Area, Edges: slices.Clone(a.Edges), Stubs: slices.Clone(a.Stubs), Sums: slices.Clone(a.Sums)}
	}
	return api.Base{Areas: areas, Exts: slices.Clone(b.Exts)}
}

func sameArea(a, b api.AreaBase) bool {
	return a.Area == b.Area && slices.Equal(a.Edges, b.Edges) && slices.Equal(a.Stubs, b.Stubs) && slices.Equal(a.Sums, b.Sums)
}

func TestP2OnlyRead(t *testing.T) {
	r := rand.New(rand.NewSource(2))
	for range 500 {
		whole := draw(r)
		kept := cloneBase(whole)
		part := api.Base{Areas: slices.Clone(whole.Areas), Exts: whole.Exts[:len(whole.Exts)/2]}
		for i, a := range part.Areas {
			part.Areas[i] = api.AreaBase{Area: a.Area, Edges: a.Edges[:len(a.Edges)/2], Stubs: a.Stubs[:len(a.Stubs)/2], Sums: a.Sums[:len(a.Sums)/2]}
		}
		area.Ways(part, 1)
		area.Sums(part, 1)
		if !slices.EqualFunc(whole.Areas, kept.Areas, sameArea) || !slices.Equal(whole.Exts, kept.Exts) {
			t.Fatal("what was handed in has changed")
		}
	}
}

func TestP2AnswersAreTheCallers(t *testing.T) {
	r := rand.New(rand.NewSource(3))
	for range 500 {
		b := draw(r)
		got, want := area.Ways(b, 1), area.Ways(b, 1)
		for i, w := range got {
			links := w.Links[:cap(w.Links)]
			for k := range links {
				links[k] = -5
			}
			if !slices.EqualFunc(got[i+1:], want[i+1:], sameWay) {
				t.Fatal("two lists of an answer share memory")
			}
		}
		ways(t, "asked again", b, 1, want...)
	}
}
