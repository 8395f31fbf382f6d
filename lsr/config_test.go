package lsr_test

import (
	"math"
	"testing"

	"wayfinder/api"
	"wayfinder/lsr"
)

// beyond are numbers that no field may have.
var beyond = []int{-1, math.MinInt, math.MaxInt, 1 << 32, 1<<32 + 1, -1 << 32}

func try(t *testing.T, what string, c api.LsrConfig, want api.Errno) {
	t.Helper()
	r, e := lsr.New(c)
	if e != want || (r != nil) != (want == api.OK) {
		t.Errorf("G1 %s: %v %v, must be %v", what, r != nil, e, want)
	}
}

// config gives one of two areas that is right.
func config() api.LsrConfig {
	return api.LsrConfig{ID: 1, Ports: []api.LsrPort{port(4, 0, 10), port(6, 7, 1)}, Stubs: []api.LsrStub{stub(0, ten, 2), stub(7, ten, 3)}}
}

// fields tries numbers in a field: it is in range just from least to most.
func fields(t *testing.T, what string, least, most int, put func(*api.LsrConfig, int)) {
	t.Helper()
	for _, n := range append([]int{least - 1, least, most, most + 1}, beyond...) {
		c, want := config(), api.ErrRange
		if least <= n && n <= most {
			want = api.OK
		}
		put(&c, n)
		try(t, what, c, want)
	}
}

func manyPorts(n int) []api.LsrPort {
	var out []api.LsrPort
	for i := range n {
		out = append(out, port(1000-i, 0, 1))
	}
	return out
}

func manyStubs(area, n int) []api.LsrStub {
	var out []api.LsrStub
	for i := range n {
		out = append(out, stub(area, at(uint32(n-i)<<20, 12), i))
	}
	return out
}

func TestG1Ranges(t *testing.T) {
	try(t, "as it is", config(), api.OK)
	try(t, "nothing", api.LsrConfig{}, api.ErrRange)
	try(t, "without ports", api.LsrConfig{ID: 1}, api.OK)
	fields(t, "a number", 1, 4294967295, func(c *api.LsrConfig, n int) { c.ID = n })
	fields(t, "a link", 0, 65535, func(c *api.LsrConfig, n int) { c.Ports[1].Link = n })
	fields(t, "an area", 0, 65534, func(c *api.LsrConfig, n int) { c.Ports[1].Area, c.Stubs = n, nil })
	fields(t, "a port's cost", 1, 65535, func(c *api.LsrConfig, n int) { c.Ports[1].Cost = n })
	fields(t, "a stub's cost", 0, 65535, func(c *api.LsrConfig, n int) { c.Stubs[1].Cost = n })
}

func TestG1Ports(t *testing.T) {
	try(t, "as many as can be", api.LsrConfig{ID: 1, Ports: manyPorts(64)}, api.OK)
	try(t, "one more", api.LsrConfig{ID: 1, Ports: manyPorts(65)}, api.ErrFull)
	try(t, "one more, of no number", api.LsrConfig{Ports: manyPorts(65)}, api.ErrRange)
	wrong := append(manyPorts(64), port(0, 0, 0))
	try(t, "one more, which is wrong", api.LsrConfig{ID: 1, Ports: wrong}, api.ErrFull)
	list := func(l ...api.LsrPort) api.LsrConfig { return api.LsrConfig{ID: 1, Ports: l} }
	try(t, "a link twice", list(port(4, 0, 1), port(5, 0, 1), port(4, 7, 2)), api.ErrTwice)
	try(t, "a link twice, and no cost", list(port(4, 0, 1), port(4, 0, 0)), api.ErrRange)
	try(t, "a link twice ahead of no cost", list(port(4, 0, 1), port(4, 0, 1), port(5, 0, 0)), api.ErrTwice)
	try(t, "no cost ahead of a link twice", list(port(4, 0, 1), port(5, 0, 0), port(4, 0, 1)), api.ErrRange)
	c := config()
	c.Ports, c.Stubs[0].Prefix = append(c.Ports, port(4, 0, 1)), at(1, 8)
	try(t, "a link twice and a wrong stub", c, api.ErrTwice)
}

func TestG1Stubs(t *testing.T) {
	list := func(l ...api.LsrStub) api.LsrConfig {
		c := config()
		c.Stubs = append(c.Stubs, l...)
		return c
	}
	for _, p := range []api.Prefix{at(1, 8), at(0, -1), at(0, 33), at(0, math.MaxInt), at(1, 0), at(1, 32), at(0, 32), at(math.MaxUint32, 32)} {
		try(t, "bits", list(stub(0, p, 0)), api.ErrBits)
		try(t, "bits, and no cost, and nowhere", list(stub(9, p, -1)), api.ErrBits)
	}
	try(t, "all addresses", list(stub(0, at(0, 0), 0)), api.OK)
	try(t, "two addresses", list(stub(0, at(2, 31), 0)), api.OK)
	for _, n := range append([]int{1, 65535, 65536}, beyond...) {
		try(t, "nowhere", list(stub(n, six, 0)), api.ErrNone)
	}
	try(t, "nowhere, and no cost", list(stub(1, six, -1)), api.ErrRange)
	try(t, "twice", list(stub(7, ten, 9)), api.ErrTwice)
	try(t, "twice, and no cost", list(stub(7, ten, 65536)), api.ErrRange)
	try(t, "twice ahead of bits", list(stub(7, ten, 9), stub(0, at(1, 8), 0)), api.ErrTwice)
	try(t, "the same address, but longer", list(stub(7, at(0x0a000000, 9), 9)), api.OK)
}

func TestG1ManyStubs(t *testing.T) {
	list := func(l ...api.LsrStub) api.LsrConfig {
		c := config()
		c.Stubs = append(append(manyStubs(7, 63), manyStubs(0, 63)...), l...)
		return c
	}
	try(t, "as many as can be", list(), api.OK)
	try(t, "one more", list(stub(7, six, 0)), api.ErrFull)
	try(t, "one more of the other", list(stub(0, six, 0)), api.ErrFull)
	try(t, "one more, which is there", list(stub(7, at(1<<20, 12), 0)), api.ErrTwice)
	try(t, "one more, nowhere", list(stub(8, six, 0)), api.ErrNone)
	try(t, "one more ahead of one that is wrong", list(stub(7, six, 0), stub(0, six, -1)), api.ErrFull)
	r := begin(t, list())
	r.meet(6, 2)
	for _, x := range r.List() {
		if x.Kind == api.LsaRouter && len(x.Stubs) != 64 {
			t.Errorf("G1 %d stubs are told", len(x.Stubs))
		}
	}
}

func TestG1ManyPorts(t *testing.T) {
	r := begin(t, api.LsrConfig{ID: 1, Ports: manyPorts(64)})
	for i, p := range r.c.Ports {
		r.meet(p.Link, 2+i)
	}
	if x := r.List()[0]; len(x.Links) != 64 || x.Links[0].Link != 937 || x.Links[63].Link != 1000 {
		t.Errorf("G1 %d links are told: %v", len(x.Links), x.Links)
	}
}

func TestG2Beginning(t *testing.T) {
	r, _ := lsr.New(config())
	g := rig{r, t, config()}
	g.near("at the beginning")
	g.went("at the beginning")
	g.keeps("at the beginning", "router 0/1 #1 age 0", "router 7/1 #1 age 0")
	g.refuses("Down at the beginning", r.Down(4), api.ErrState)
	g.ticks(2)
	g.went("no port is up")
	g.refuses("Up", r.Up(4), api.OK)
	g.went("Up, at once", "4 hello 0")
	g.Tick()
	g.went("the third tick", "4 hello 0")
}

func TestG2UpDown(t *testing.T) {
	r, _ := lsr.New(config())
	g := rig{r, t, config()}
	for _, link := range append([]int{0, 5, 65536}, beyond...) {
		g.refuses("Up of no port", r.Up(link), api.ErrNone)
		g.refuses("Down of no port", r.Down(link), api.ErrNone)
	}
	g.refuses("Up", r.Up(6), api.OK)
	g.near("up", api.Near{Link: 6})
	g.went("up", "6 hello 0")
	g.refuses("Up again", r.Up(6), api.ErrState)
	g.refuses("Down of the other", r.Down(4), api.ErrState)
	g.went("what was refused")
	g.refuses("Up of the other", r.Up(4), api.OK)
	g.near("both", api.Near{Link: 4}, api.Near{Link: 6})
	g.refuses("Down", r.Down(6), api.OK)
	g.near("down", api.Near{Link: 4})
	g.went("the other's hello alone", "4 hello 0")
	g.refuses("Down again", r.Down(6), api.ErrState)
	g.refuses("Up once more", r.Up(6), api.OK)
	g.went("up once more", "6 hello 0")
}

func TestG2Redistribute(t *testing.T) {
	g := begin(t, api.LsrConfig{ID: 1, Ports: []api.LsrPort{port(4, 0, 10)}})
	put := func(what string, want api.Errno, l ...api.LsrExt) {
		t.Helper()
		g.refuses("G2 "+what, g.Redistribute(l), want)
	}
	put("two", api.OK, outer(ten, 5, 6), outer(six, api.MaxCost, 4294967295))
	two := []string{"router 0/1 #1 age 0", "outer 1 6.0.0.0/8 #1 age 0", "outer 1 10.0.0.0/8 #1 age 0"}
	g.keeps("two", two...)
	g.has("a body", ofOuter(1, six, 1, 0, api.MaxCost, 4294967295))
	for _, p := range []api.Prefix{at(1, 8), at(0, -1), at(0, 33), at(1, 0)} {
		put("bits", api.ErrBits, outer(eleven, 0, 0), outer(p, -1, -1), outer(p, 0, 0))
	}
	for _, n := range append([]int{1 << 24}, beyond...) {
		put("a cost", api.ErrRange, outer(eleven, 0, 0), outer(eleven, n, 0), outer(at(1, 8), 0, 0))
	}
	for _, n := range beyond {
		put("a tag", api.ErrRange, outer(eleven, 0, n))
	}
	put("twice", api.ErrTwice, outer(eleven, 0, 0), outer(ten, 0, 0), outer(eleven, 1, 0), outer(at(1, 8), 0, 0))
	many := []api.LsrExt{outer(at(0, 0), 0, 0), outer(at(0, 32), 0, 0)}
	for i := range 62 {
		many = append(many, outer(at(uint32(i)<<8, 24), 0, 0))
	}
	put("too many", api.ErrFull, append(many, outer(at(1, 8), -1, -1))...)
	g.keeps("what was refused changes nothing", two...)
	put("as many as can be", api.OK, many...)
	if n := len(g.Base().Exts); n != 64 {
		t.Errorf("G2 %d outer prefixes, not 64", n)
	}
	put("none", api.OK)
	g.keeps("none", "router 0/1 #1 age 0")
}
