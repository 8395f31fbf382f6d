package lsr_test

import (
	"testing"

	"wayfinder/api"
	"wayfinder/lsa"
	"wayfinder/lsr"
)

// one gives a router of area 0 with two ports.
func one(t *testing.T) rig {
	t.Helper()
	return begin(t, api.LsrConfig{ID: 1, Ports: []api.LsrPort{port(4, 0, 10), port(6, 0, 1)}})
}

func TestG3Neighbour(t *testing.T) {
	g := one(t)
	g.hear(4, hello(2, 0, 0))
	g.near("heard", api.Near{Link: 4, ID: 2}, api.Near{Link: 6})
	g.went("nobody was there", "4 hello 2")
	g.hear(4, hello(2, 0, 0), hello(2, 0, 3), hello(2, 0, 2))
	g.near("it has not heard this one", api.Near{Link: 4, ID: 2}, api.Near{Link: 6})
	g.went("nothing new")
	g.hear(4, hello(2, 0, 1))
	g.near("two-way", api.Near{Link: 4, ID: 2, Two: true}, api.Near{Link: 6})
	g.went("it turns two-way", "4 hello 2", "4 update router 0/1 #2 age 1")
	g.hear(4, hello(2, 0, 1))
	g.went("two-way as it was")
	g.hear(4, hello(2, 0, 5))
	g.near("no longer two-way", api.Near{Link: 4, ID: 2}, api.Near{Link: 6})
	g.went("it ceases to be two-way", "4 hello 2")
	g.ticks(2)
	g.hear(4, hello(2, 0, 5))
	g.ticks(2)
	g.went("nothing is owed any more", "4 hello 2", "6 hello 0")
}

func TestG3AtOnce(t *testing.T) {
	g := one(t)
	g.hear(6, hello(9, 0, 1))
	g.near("two-way at once", api.Near{Link: 4}, api.Near{Link: 6, ID: 9, Two: true})
	g.went("one hello", "6 hello 9", "6 update router 0/1 #2 age 1")
}

func TestG3AnotherNumber(t *testing.T) {
	g := one(t)
	g.meet(4, 2)
	g.hear(4, hello(3, 0, 1))
	g.near("another one", api.Near{Link: 4, ID: 3, Two: true}, api.Near{Link: 6})
	g.went("it is told all, though the one ahead of it knew that", "4 hello 3", "4 update router 0/1 #3 age 1")
	g.has("the link leads to it", ofRouter(0, 1, 3, 0, api.LsLink{To: 3, Cost: 10, Link: 4}))
	g.hear(4, hello(5, 0, 0))
	g.near("another one that has not heard this one", api.Near{Link: 4, ID: 5}, api.Near{Link: 6})
	g.went("nothing is owed", "4 hello 5")
	g.ticks(3)
	g.went("nothing is owed later", "4 hello 5", "6 hello 0")
}

func TestG3NotHeard(t *testing.T) {
	g := one(t)
	g.hear(4, hello(1, 0, 0), hello(1, 0, 1), hello(2, 7, 0), hello(2, 7, 1))
	g.near("its own number, or another area", api.Near{Link: 4}, api.Near{Link: 6})
	g.went("nothing")
	g.meet(4, 2)
	g.ticks(9)
	g.hear(4, hello(2, 7, 1), hello(1, 0, 1), hello(2, 7, 0), hello(3, 7, 1), update(2, 0, ofRouter(0, 2, 1, 0)))
	g.near("still the same", api.Near{Link: 4, ID: 2, Two: true}, api.Near{Link: 6})
	g.Tick()
	g.near("hellos alone count as heard", api.Near{Link: 4}, api.Near{Link: 6})
}

func TestG3OwedInScope(t *testing.T) {
	g := begin(t, api.LsrConfig{ID: 1, Ports: []api.LsrPort{port(4, 0, 10), port(6, 7, 1), port(8, 9, 1)}})
	g.meet(6, 3)
	g.hear(6, update(3, 7, ofOuter(3, ten, 4, 5, 1, 1), ofRouter(7, 3, 1, 118, api.LsLink{To: 1, Cost: 1})))
	g.settle()
	g.hear(4, hello(2, 0, 1))
	g.went("area 0 and what is told everywhere", "4 hello 2", "4 update router 0/1 #2 age 1",
		"4 update summary 0/1 0.0.0.3/32 #1 age 1", "4 update outer 3 10.0.0.0/8 #4 age 6")
	g.hear(8, hello(5, 9, 1))
	g.went("area 9", "8 hello 5", "8 update router 9/1 #2 age 1",
		"8 update summary 9/1 0.0.0.3/32 #1 age 1", "8 update outer 3 10.0.0.0/8 #4 age 6")
}

func TestG3OwedThoughEnded(t *testing.T) {
	g := one(t)
	g.meet(4, 2)
	g.hear(4, update(2, 0, ofRouter(0, 9, 3, 119)))
	g.Tick()
	g.Take()
	g.hear(6, hello(3, 0, 1))
	g.went("what has ended, but is kept, too", "4 update router 0/1 #3 age 1", "6 hello 3", "6 update router 0/1 #3 age 1", "6 update router 0/9 #3 age 120")
}

func TestG4Lost(t *testing.T) {
	g := one(t)
	g.Tick()
	g.meet(4, 2)
	g.ticks(9)
	g.near("nine ticks", api.Near{Link: 4, ID: 2, Two: true}, api.Near{Link: 6})
	g.Take()
	g.Tick()
	g.near("ten ticks", api.Near{Link: 4}, api.Near{Link: 6})
	g.went("no hello for that")
	g.has("no link any more", ofRouter(0, 1, 3, 0))
	g.hear(4, hello(2, 0, 0))
	g.ticks(9)
	g.hear(4, hello(2, 0, 0))
	g.ticks(9)
	g.near("heard in between", api.Near{Link: 4, ID: 2}, api.Near{Link: 6})
	g.Tick()
	g.near("one that was not two-way", api.Near{Link: 4}, api.Near{Link: 6})
}

func TestG4NothingOwed(t *testing.T) {
	g := one(t)
	g.hear(4, hello(2, 0, 1))
	g.went("owed", "4 hello 2", "4 update router 0/1 #2 age 1")
	g.refuses("Down", g.Down(4), api.OK)
	g.refuses("Up", g.Up(4), api.OK)
	g.near("down and up", api.Near{Link: 4}, api.Near{Link: 6})
	g.ticks(9)
	g.went("nothing is owed", "4 hello 0", "4 hello 0", "6 hello 0", "4 hello 0", "6 hello 0", "4 hello 0", "6 hello 0")
	g.hear(4, hello(2, 0, 1))
	g.Take()
	g.ticks(10)
	g.Take()
	g.ticks(3)
	g.went("lost by time, and nothing is owed", "4 hello 0", "6 hello 0")
	g.hear(4, hello(2, 0, 1))
	g.Take()
	g.hear(4, hello(3, 0, 0))
	g.ticks(3)
	g.went("another one, to whom nothing is owed", "4 hello 3", "4 hello 3", "6 hello 0")
}

// several gives a router whose neighbours 2, 3 and 4 have acknowledged all: two in area 0, one in area 7.
func several(t *testing.T) rig {
	t.Helper()
	g := begin(t, api.LsrConfig{ID: 1, Ports: []api.LsrPort{port(4, 0, 10), port(6, 0, 1), port(8, 7, 1)}})
	g.meet(4, 2)
	g.meet(6, 3)
	g.meet(8, 4)
	return g
}

func TestG5Counts(t *testing.T) {
	for _, kind := range []int{api.PktUpdate, api.PktAck} {
		g := one(t)
		g.hear(4, hello(2, 0, 0))
		g.Take()
		p := update(2, 0, ofRouter(0, 9, 1, 0))
		p.Kind = kind
		g.hear(4, p)
		g.went("not two-way")
		g.meet(4, 2)
		other := p
		other.From = 3
		g.hear(4, other)
		other.From, other.Area = 2, 7
		other.Lsas = []api.Lsa{ofRouter(7, 9, 1, 0), ofOuter(9, ten, 1, 0, 0, 0)}
		g.hear(4, other)
		g.hear(6, p)
		g.went("another one, another area, another port")
		g.keeps("nothing of that", "router 0/1 #2 age 0")
	}
}

func TestG5Newer(t *testing.T) {
	g := several(t)
	x := ofRouter(0, 9, 5, 7)
	g.hear(4, update(2, 0, x))
	g.has("kept", x)
	g.went("told to the other one of the area", "4 ack router 0/9 #5 age 7", "6 update router 0/9 #5 age 8")
	y := ofRouter(0, 9, 6, 3, api.LsLink{To: 8, Cost: 1})
	g.hear(6, update(3, 0, y))
	g.has("in its place", y)
	g.went("no longer owed there, but to the first", "4 update router 0/9 #6 age 4", "6 ack router 0/9 #6 age 3")
	g.ticks(3)
	g.went("nothing is told again there", "4 hello 2", "4 update router 0/9 #6 age 7", "6 hello 3", "8 hello 4")
}

func TestG5Everywhere(t *testing.T) {
	g := several(t)
	g.hear(8, update(4, 7, ofOuter(4, ten, 1, 0, 3, 4), ofOuter(4, ten, 2, 0, 3, 4)))
	g.went("both are acknowledged, the last is told to all areas",
		"4 update outer 4 10.0.0.0/8 #2 age 1", "6 update outer 4 10.0.0.0/8 #2 age 1",
		"8 ack outer 4 10.0.0.0/8 #1 age 0", "8 ack outer 4 10.0.0.0/8 #2 age 0")
}

func TestG5Scope(t *testing.T) {
	g := several(t)
	g.hear(4, update(2, 0, ofRouter(7, 9, 5, 7), ofRouter(5, 9, 5, 7), ofPrefix(7, 9, six, 1, 0, 0), ofPrefix(0, 9, six, 1, 0, 0)))
	g.keeps("only what is in scope", "router 0/1 #3 age 0", "summary 0/9 6.0.0.0/8 #1 age 0", "router 7/1 #2 age 0")
	g.went("only that is acknowledged", "4 ack summary 0/9 6.0.0.0/8 #1 age 0", "6 update summary 0/9 6.0.0.0/8 #1 age 1")
}

func TestG5NothingKnownOfWhatEnds(t *testing.T) {
	g := several(t)
	g.hear(4, update(2, 0, ofRouter(0, 9, 5, api.MaxAge), ofRouter(0, 9, 5, api.MaxAge-1)))
	g.has("one that has not ended yet", ofRouter(0, 9, 5, api.MaxAge-1))
	g.went("acknowledged, no more", "4 ack router 0/9 #5 age 120", "4 ack router 0/9 #5 age 119", "6 update router 0/9 #5 age 120")
}

func TestG5Same(t *testing.T) {
	g := several(t)
	x := ofRouter(0, 9, 5, 7)
	g.hear(4, update(2, 0, x))
	g.Take()
	x.Age = 30
	g.hear(6, update(3, 0, x))
	g.has("the age stays", ofRouter(0, 9, 5, 7))
	g.went("acknowledged as it came", "6 ack router 0/9 #5 age 30")
	g.ticks(3)
	g.went("and no longer owed there", "4 hello 2", "6 hello 3", "8 hello 4")
	g.hear(4, update(2, 0, x))
	g.went("acknowledged once more", "4 ack router 0/9 #5 age 30")
}

func TestG5Older(t *testing.T) {
	g := several(t)
	x := ofRouter(0, 9, 5, 7)
	g.hear(4, update(2, 0, x))
	g.Take()
	g.hear(6, ack(3, 0, x))
	old := ofRouter(0, 9, 4, 0, api.LsLink{To: 3, Cost: 1})
	g.hear(6, update(3, 0, old, old))
	g.has("it stays", x)
	g.went("not acknowledged, but told what is kept", "6 update router 0/9 #5 age 8")
	g.hear(6, update(3, 0, old))
	g.went("due now, though it was told just now", "6 update router 0/9 #5 age 8")
	g.ticks(2)
	g.went("not due")
	g.Tick()
	g.went("due again", "4 hello 2", "6 hello 3", "6 update router 0/9 #5 age 11", "8 hello 4")
}

func TestG5Ends(t *testing.T) {
	g := several(t)
	x := ofRouter(0, 9, 5, 7)
	g.hear(4, update(2, 0, x))
	g.settle()
	x.Age = api.MaxAge
	g.hear(4, update(2, 0, x))
	g.has("kept until it is acknowledged", x)
	g.went("it ends", "4 ack router 0/9 #5 age 120", "6 update router 0/9 #5 age 120")
	again := ofRouter(0, 9, 6, 0)
	g.hear(4, update(2, 0, again))
	g.has("it is there again", again)
}

func TestG5Order(t *testing.T) {
	g := several(t)
	x, y, z := ofRouter(0, 9, 5, 7), ofOuter(9, ten, 1, 0, 0, 0), ofRouter(0, 7, 1, 0)
	g.hear(4, update(2, 0, y, x, z, x))
	g.went("acknowledgements as they arose, updates by key", "4 ack outer 9 10.0.0.0/8 #1 age 0", "4 ack router 0/9 #5 age 7", "4 ack router 0/7 #1 age 0", "4 ack router 0/9 #5 age 7",
		"6 update router 0/7 #1 age 1", "6 update router 0/9 #5 age 8", "6 update outer 9 10.0.0.0/8 #1 age 1", "8 update outer 9 10.0.0.0/8 #1 age 1")
}

func TestG6Acknowledged(t *testing.T) {
	g := several(t)
	x, y := ofRouter(0, 9, 5, 7), ofRouter(0, 7, 5, 7)
	g.hear(4, update(2, 0, x, y))
	g.Take()
	for _, z := range []api.Lsa{ofRouter(0, 9, 4, 7), ofRouter(0, 9, 6, 7), ofRouter(0, 9, 5, api.MaxAge), ofRouter(0, 9, 5, 7, api.LsLink{To: 1, Cost: 1}), ofRouter(0, 8, 5, 7), ofOuter(8, ten, 1, 0, 0, 0)} {
		g.hear(6, ack(3, 0, z))
	}
	g.hear(4, ack(2, 0, x, y))
	g.hear(8, ack(4, 7, x, y))
	g.ticks(3)
	again := []string{"4 hello 2", "6 hello 3", "6 update router 0/7 #5 age 11", "6 update router 0/9 #5 age 11", "8 hello 4"}
	g.went("acknowledged is another one, or by another one", again...)
	x.Age = 99
	g.hear(6, ack(3, 0, x))
	g.went("nothing goes out for that")
	g.ticks(3)
	g.went("the other one alone is owed", "4 hello 2", "6 hello 3", "6 update router 0/7 #5 age 14", "8 hello 4")
	g.hear(6, ack(3, 0, ofRouter(0, 8, 1, 0), y))
	g.keeps("acknowledgements are not learned", "router 0/1 #3 age 6", "router 0/7 #5 age 13", "router 0/9 #5 age 13", "router 7/1 #2 age 6")
	g.ticks(3)
	g.went("nothing is owed", "4 hello 2", "6 hello 3", "8 hello 4")
}

func TestG10Hear(t *testing.T) {
	r, _ := lsr.New(config())
	g := rig{r, t, config()}
	good, _ := lsa.Encode(hello(2, 0, 0))
	for _, link := range append([]int{0, 5, 65536}, beyond...) {
		g.refuses("no port", r.Hear(link, good), api.ErrNone)
		g.refuses("no port, and nothing", r.Hear(link, nil), api.ErrNone)
	}
	g.refuses("down", r.Hear(4, good), api.ErrState)
	g.refuses("down, and nothing", r.Hear(4, nil), api.ErrState)
	r.Up(4)
	r.Take()
	g.refuses("nothing", r.Hear(4, nil), api.ErrForm)
	g.refuses("too long", r.Hear(4, make([]byte, api.MaxPacket+1)), api.ErrLong)
	for i := range good {
		bent := append([]byte{}, good...)
		bent[i] ^= 4
		_, want := lsa.Decode(bent)
		g.refuses("bent", r.Hear(4, bent), want)
	}
	g.near("nothing has happened", api.Near{Link: 4})
	g.went("nothing has happened")
	g.refuses("as it should be", r.Hear(4, good), api.OK)
	g.near("heard", api.Near{Link: 4, ID: 2})
}
