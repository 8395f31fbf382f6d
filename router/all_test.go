package router_test

import (
	"bytes"
	"fmt"
	"math"
	"math/rand"
	"slices"
	"testing"

	"wayfinder/api"
	"wayfinder/policy"
	"wayfinder/router"
)

// TestP1Anything: whatever is handed in, every call ends and none panics.
func TestP1Anything(t *testing.T) {
	d := rand.New(rand.NewSource(5))
	numbers := []int{math.MinInt, -1, 0, 1, 2, 3, 5, 7, 8, 9, 32, 33, 65535, 65536, 1<<32 - 1, 1 << 32, math.MaxInt}
	n := func() int { return numbers[d.Intn(len(numbers))] }
	at := func() api.Prefix { return pre(uint32(n()), n()) }
	odd := func(c *api.RouterConfig) {
		switch d.Intn(9) {
		case 0:
			c.Lsr.Ports = append(c.Lsr.Ports, api.LsrPort{Link: n(), Area: n(), Cost: n()})
		case 1:
			c.Lsr.ID, c.Lsr.Stubs[0] = n(), api.LsrStub{Area: n(), Prefix: at(), Cost: n()}
		case 2:
			c.Speaker.Domain, c.Speaker.Id, c.Speaker.Cluster = n(), n(), n()
		case 3:
			c.Speaker.Peers[d.Intn(3)] = api.SpeakerPeer{Domain: n(), Id: n(), Client: d.Intn(2) == 0}
		case 4:
			c.Peers[d.Intn(3)] = api.RouterPeer{Link: n(), Hold: n()}
		case 5:
			c.Fixed[d.Intn(3)] = api.Fixed{Prefix: at(), Links: []int{n()}, Next: uint32(n())}
		case 6:
			c.Own[0] = api.Route{Prefix: at(), Path: []int{n()}, Origin: n(), Marks: []int{n()}, Next: uint32(n())}
		case 7:
			c.Speaker.Policies = api.PolicyFile{Policies: []api.Policy{{Name: "p", Terms: []api.Term{{Then: []api.Action{{Kind: n(), N: n()}}}}}}}
		default:
			c.Peers = append(c.Peers, api.RouterPeer{Link: n()})
		}
	}
	taken := 0
	for range 3000 {
		c := usual()
		for range d.Intn(3) {
			odd(&c)
		}
		r, e := router.New(c)
		if (r == nil) != (e != api.OK) {
			t.Fatalf("New %+v: %v %v", c, r != nil, e)
		}
		if r == nil {
			continue
		}
		taken++
		for range 30 {
			callAny(d, r, n)
		}
	}
	if taken < 500 {
		t.Errorf("only %d were made", taken)
	}
}

func callAny(d *rand.Rand, r *router.Router, n func() int) {
	link := one(&world{Rand: d}, n(), portLink, bothLink, peerLink, lastLink)
	b := make([]byte, d.Intn(30))
	d.Read(b)
	frames := [][]byte{b, append([]byte{byte(1 + d.Intn(3))}, b...), hello(), ofNine(1 + d.Intn(3)), frameOf(openOf(usual(), d.Intn(3)), alive), frameOf(have(d.Intn(3), nil, eleven))}
	switch d.Intn(7) {
	case 0, 1:
		r.Up(link)
	case 2:
		r.Down(link)
	case 3, 4:
		r.Receive(link, frames[d.Intn(len(frames))])
	case 5:
		r.Send(uint32(n()), make([]byte, one(&world{Rand: d}, 0, 9, api.MaxData, api.MaxData+1, 100000)))
	default:
		r.Tick()
	}
	r.Rows()
	r.State(n())
	if d.Intn(3) == 0 {
		r.Take()
		r.Come()
	}
}

// TestP2ConfigOnlyRead: what New is handed is read, and not kept.
func TestP2ConfigOnlyRead(t *testing.T) {
	f, err := policy.Parse("policy in { then prepend 1, accept; }")
	if err != nil {
		t.Fatal(err)
	}
	turned := func() api.RouterConfig {
		c := usual()
		c.Own[0].Path, c.Own[0].Marks = []int{6, 6}, []int{4, 5}
		c.Fixed = append(c.Fixed, api.Fixed{Prefix: thirteen, Links: []int{portLink, peerLink}})
		c.Speaker.Policies, c.Speaker.Peers[1].In = f, "in"
		return c
	}
	c := turned()
	before := show(c)
	g := rig{begin(t, c), turned()}
	if after := show(c); after != before {
		t.Errorf("what was handed in is\n%s\nand was\n%s", after, before)
	}
	model, _ := newModel(turned())
	g.pair.must = model // that of c reads what is spoiled now
	clear(c.Lsr.Ports)
	clear(c.Lsr.Stubs)
	clear(c.Speaker.Peers)
	clear(c.Peers)
	clear(c.Fixed[3].Links)
	clear(c.Fixed)
	clear(c.Own[0].Path)
	clear(c.Own[0].Marks)
	clear(c.Own)
	clear(f.Policies[0].Terms[0].Then)
	clear(f.Policies)
	g.ok(g.up(peerLink))
	g.ok(g.up(lastLink))
	g.open(1)
	g.open(2)
	g.says(1, have(1, nil, eleven))
	g.went("all", "7 open 1 5 0", "8 open 1 5 9", "7 alive", "7 have 10.5.0.0/16 [1 6 6] 50", "8 alive", "8 have 10.5.0.0/16 [1 6 6] 50", "8 have 11.0.0.0/8 [1 1 3] 50")
	g.rows("all", "11.0.0.0/8 3 0 [7]", "13.0.0.0/8 2 0 [0 7]")
}

// roomy gives bytes with something in the room behind them, and the whole.
func roomy(b []byte) (list, whole []byte) {
	whole = append(slices.Clone(b), 7, 7, 7)
	return whole[:len(b)], whole
}

// TestP2FramesOnlyRead: so are frames and data, with the room behind them.
func TestP2FramesOnlyRead(t *testing.T) {
	g := ready(t)
	hear := func(link int, b []byte) {
		t.Helper()
		f, whole := roomy(b)
		g.ok(g.receive(link, f))
		if !bytes.Equal(whole, append(slices.Clone(b), 7, 7, 7)) {
			t.Errorf("what was handed in is %x now", whole)
		}
		clear(whole)
	}
	hear(portLink, hello())
	hear(portLink, ofNine(1, api.LsStub{Prefix: fourteen}))
	f := frameOf(have(1, []int{6}, eleven), have(1, []int{7}, twelve))
	hear(peerLink, f[:50])
	hear(peerLink, append([]byte{api.FramePeer}, f[50:]...))
	g.take()
	r, _ := router.New(usual())
	r.Up(peerLink)
	r.Take()
	for _, to := range []uint32{80, 5} {
		b, whole := roomy([]byte("send"))
		r.Send(to, b)
		d, wholeData := roomy(data(to, 9, "data"))
		r.Receive(peerLink, d)
		if string(whole) != "send\a\a\a" || !bytes.Equal(wholeData, append(data(to, 9, "data"), 7, 7, 7)) {
			t.Errorf("what was handed in is %x %x now", whole, wholeData)
		}
		clear(whole)
		clear(wholeData)
	}
	if got, want := show(r.Take()), show([]api.Sent{{Link: peerLink, Bytes: data(80, 31, "send")}, {Link: peerLink, Bytes: data(80, 8, "data")}}); got != want {
		t.Errorf("it sent %s, must be %s", got, want)
	}
	if got, want := show(r.Come()), show([]api.Arrived{{To: 5, Bytes: []byte("send")}, {To: 5, Bytes: []byte("data")}}); got != want {
		t.Errorf("there came %s, must be %s", got, want)
	}
	g.tick()
	g.rows("all", "0.0.0.9/32 4 1 [0]", "11.0.0.0/8 3 0 [7]", "12.0.0.0/8 3 0 [7]", "14.0.0.0/8 4 1 [0]")
}

// spoil writes over all of a list, and over the spare room behind it.
func spoil[T any](l []T) { clear(l[:cap(l)]) }

// answers are those of one step of a tale.
type answers struct {
	sent []api.Sent
	come []api.Arrived
	rows []api.Row
}

// tale plays a router, the same at each seed, and tells what it answers. Between two steps something is done with the router and its answers.
func tale(t *testing.T, seed int64, between func(r *router.Router, a answers)) string {
	d := rand.New(rand.NewSource(seed))
	r, e := router.New(usual())
	if e != api.OK {
		t.Fatal(e)
	}
	var text bytes.Buffer
	for range 60 {
		callAny(d, r, func() int { return d.Intn(10) })
		a := answers{r.Take(), r.Come(), r.Rows()}
		fmt.Fprint(&text, a, r.State(0), r.State(1), r.State(2), "\n")
		between(r, a)
	}
	return text.String()
}

func nothing(*router.Router, answers) {}

// TestP2AnswersAreTheCallers: who writes into an answer, or behind it, changes nothing.
func TestP2AnswersAreTheCallers(t *testing.T) {
	for seed := range int64(100) {
		alone := tale(t, seed, nothing)
		spoiled := tale(t, seed, func(_ *router.Router, a answers) {
			for _, s := range a.sent {
				spoil(s.Bytes)
			}
			for _, x := range a.come {
				spoil(x.Bytes)
			}
			for _, x := range a.rows {
				spoil(x.Links)
			}
			spoil(a.sent)
			spoil(a.come)
			spoil(a.rows)
		})
		if alone != spoiled {
			t.Fatalf("an answer is not the caller's:\n%s\nand then\n%s", alone, spoiled)
		}
	}
}

// TestP2NoListsShared: no two frames of one answer share memory.
func TestP2NoListsShared(t *testing.T) {
	r, _ := router.New(usual())
	for _, link := range []int{portLink, bothLink, peerLink, lastLink} {
		r.Up(link)
	}
	for range 3 {
		r.Tick()
		r.Send(80, []byte("x"))
		r.Send(90, []byte("y"))
	}
	sent := r.Take()
	for i, s := range sent {
		for k := range s.Bytes[:cap(s.Bytes)] {
			s.Bytes[:cap(s.Bytes)][k] = byte(i)
		}
	}
	for i, s := range sent {
		if !bytes.Equal(s.Bytes, bytes.Repeat([]byte{byte(i)}, len(s.Bytes))) {
			t.Errorf("frame %d is %x", i, s.Bytes)
		}
	}
	if len(sent) < 12 {
		t.Errorf("only %d frames", len(sent))
	}
}

// TestP3OnNothingElse: routers do not hang on each other, nor on being asked.
func TestP3OnNothingElse(t *testing.T) {
	for seed := range int64(100) {
		beside, _ := router.New(usual())
		d := rand.New(rand.NewSource(seed + 1000))
		alone := tale(t, seed, nothing)
		among := tale(t, seed, func(r *router.Router, _ answers) {
			callAny(d, beside, func() int { return d.Intn(10) })
			r.Rows()
			r.State(d.Intn(4))
			r.Take()
			r.Come()
		})
		if alone != among {
			t.Fatalf("alone\n%s\nand among others\n%s", alone, among)
		}
	}
}
