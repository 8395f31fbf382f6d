package session_test

import (
	"math/rand"
	"slices"
	"testing"

	"wayfinder/api"
	"wayfinder/session"
)

// side is one of two that talk: its session, what it has sent and the other one has not got yet, what it was given to tell, and what was told to it.
type side struct {
	s           *session.Session
	wire        []byte
	gave, heard []string
	ups, downs  []api.SessionEvent
	sent        int // how many bytes in all
	bend        int // which of them is changed on its way; -1: none
	lengths     map[int]int
}

// pair is two sides, and their time.
type pair struct {
	r    *rand.Rand
	side [2]*side
	now  int
}

func newPair(t *testing.T, r *rand.Rand, x, y api.SessionConfig) *pair {
	t.Helper()
	p := &pair{r: r}
	for i, c := range []api.SessionConfig{x, y} {
		p.side[i] = &side{s: made(t, c), bend: -1, lengths: map[int]int{}}
	}
	return p
}

// handle puts on the wire what a side sends, and takes down what happens to it.
func (x *side) handle(out api.SessionOut) {
	b := slices.Clone(out.Bytes)
	for at := 0; at < len(b); at += 256*int(b[at+4]) + int(b[at+5]) {
		x.lengths[x.sent+at+4], x.lengths[x.sent+at+5] = 1, 1
	}
	if x.bend >= x.sent && x.bend < x.sent+len(b) {
		if x.lengths[x.bend] == 0 {
			b[x.bend-x.sent] ^= byte(1 + x.bend%255)
		}
	}
	x.sent += len(b)
	x.wire = append(x.wire, b...)
	for _, e := range out.Events {
		switch e.Kind {
		case api.EventUp:
			x.ups = append(x.ups, e)
		case api.EventDown:
			x.downs = append(x.downs, e)
		case api.EventTold:
			x.heard = append(x.heard, show(e.Message))
		}
	}
}

// carry hands a piece of what one side has sent to the other one, or all.
func (p *pair) carry(from int, all bool) {
	x, y := p.side[from], p.side[1-from]
	n := len(x.wire)
	if !all {
		n = p.r.Intn(n + 1)
	}
	piece := slices.Clone(x.wire[:n])
	x.wire = x.wire[n:]
	y.handle(y.s.Receive(piece, p.now))
}

// quiet carries until nothing is on the wires.
func (p *pair) quiet(t *testing.T) {
	t.Helper()
	for n := 0; len(p.side[0].wire)+len(p.side[1].wire) > 0; n++ {
		if n == 10000 {
			t.Fatal("they never come to rest")
		}
		p.carry(p.r.Intn(2), p.r.Intn(3) == 0)
	}
}

// tell lets a side tell an update of its own, if it is up.
func (p *pair) tell(t *testing.T, i, number int) {
	t.Helper()
	m := update
	m.Lost = []api.Prefix{{Addr: uint32(number), Len: 32}}
	if p.r.Intn(2) == 0 {
		m = other
		m.Route.Med = number
	}
	x := p.side[i]
	ahead := x.s.State()
	out, e := x.s.Tell(m, p.now)
	x.handle(out)
	if e == api.OK {
		x.gave = append(x.gave, show(m))
	} else if ahead == api.SessionUp && x.s.State() == api.SessionUp || e != api.ErrState {
		t.Fatalf("Tell: %v", e)
	}
}

// talk starts both, and lets them tell each other for some ticks.
func (p *pair) talk(t *testing.T, ticks int) {
	t.Helper()
	for _, i := range p.r.Perm(2) {
		p.side[i].handle(p.side[i].s.Start(p.now))
	}
	for tick := range ticks {
		for k := range p.r.Intn(6) {
			p.tell(t, p.r.Intn(2), 100*tick+k)
			p.carry(p.r.Intn(2), false)
		}
		p.quiet(t)
		p.now++
		for _, x := range p.side {
			x.handle(x.s.Tick(p.now))
		}
	}
	p.quiet(t)
}

func drawPair(t *testing.T, r *rand.Rand) *pair {
	holds := []int{0, 3, 4, 7, 90, 65535}
	domains := [2]int{1 + r.Intn(3), 1 + r.Intn(3)}
	x := api.SessionConfig{Domain: domains[0], Id: 1 + r.Intn(5), Hold: holds[r.Intn(6)], Peer: domains[1]}
	y := api.SessionConfig{Domain: domains[1], Id: 6 + r.Intn(5), Hold: holds[r.Intn(6)], Peer: domains[0]}
	return newPair(t, r, x, y)
}

func TestK7(t *testing.T) {
	r := rand.New(rand.NewSource(2))
	told := 0
	for range 300 {
		p := drawPair(t, r)
		p.now = r.Intn(100)
		p.talk(t, 30)
		for i, x := range p.side {
			if x.s.State() != api.SessionUp || len(x.ups) != 1 || len(x.downs) != 0 {
				t.Fatalf("state %d, up %+v, down %+v", x.s.State(), x.ups, x.downs)
			}
			if !slices.Equal(x.heard, p.side[1-i].gave) {
				t.Fatalf("it was told\n%v\nand must be told\n%v", x.heard, p.side[1-i].gave)
			}
			told += len(x.heard)
		}
	}
	if told < 10000 {
		t.Errorf("only %d were told", told)
	}
}

// TestK7Again: when both were stopped, or one of them, both come up again.
func TestK7Again(t *testing.T) {
	r := rand.New(rand.NewSource(3))
	for range 100 {
		p := drawPair(t, r)
		for range 4 {
			p.talk(t, 5)
			for i, x := range p.side {
				if x.s.State() != api.SessionUp || len(x.ups) != len(x.downs)+1 || !slices.Equal(x.heard, p.side[1-i].gave) {
					t.Fatalf("state %d, up %+v, down %+v, told %v, must be told %v", x.s.State(), x.ups, x.downs, x.heard, p.side[1-i].gave)
				}
			}
			i := r.Intn(2)
			p.side[i].handle(p.side[i].s.Stop(p.now))
			p.quiet(t)
		}
	}
}

// TestK7Late: what the other one sends need only come before one has waited too long.
func TestK7Late(t *testing.T) {
	p := newPair(t, rand.New(rand.NewSource(4)), api.SessionConfig{Domain: 1, Id: 1, Hold: 90, Peer: 2}, api.SessionConfig{Domain: 2, Id: 2, Hold: 60, Peer: 1})
	x, y := p.side[0], p.side[1]
	x.handle(x.s.Start(0))
	y.handle(y.s.Start(0))
	p.now = 239
	p.carry(0, true)
	p.carry(1, true)
	if x.s.State() != api.SessionUp || y.s.State() != api.SessionConfirming {
		t.Fatalf("they stand at %d and %d", x.s.State(), y.s.State())
	}
	for range 3 {
		p.now += 59
		p.carry(0, true)
		p.carry(1, true)
		x.handle(x.s.Tick(p.now))
		y.handle(y.s.Tick(p.now))
	}
	p.tell(t, 0, 7)
	p.quiet(t)
	if x.s.State() != api.SessionUp || y.s.State() != api.SessionUp || len(y.heard) != 1 || !slices.Equal(x.gave, y.heard) {
		t.Errorf("they stand at %d and %d, told %v", x.s.State(), y.s.State(), y.heard)
	}
}

// TestK7OneByte: where one byte that is none of a length is changed, nothing is told that was not given.
func TestK7OneByte(t *testing.T) {
	r := rand.New(rand.NewSource(5))
	ended := 0
	for range 1500 {
		p := drawPair(t, r)
		p.side[0].bend = r.Intn(600)
		p.talk(t, 10)
		for i, x := range p.side {
			gave := p.side[1-i].gave
			if len(x.heard) > len(gave) || !slices.Equal(x.heard, gave[:len(x.heard)]) {
				t.Fatalf("byte %d was changed, and it was told\n%v\nbut was to be told\n%v", p.side[0].bend, x.heard, gave)
			}
		}
		x, y := p.side[0], p.side[1]
		bent := x.lengths[x.bend] == 0 && x.bend < x.sent
		if bent != (y.s.State() == api.SessionIdle) {
			t.Fatalf("byte %d of %d was changed (%v), and the other one is in state %d", x.bend, x.sent, bent, y.s.State())
		}
		if bent {
			ended++
		}
	}
	if ended < 500 {
		t.Errorf("only %d were changed", ended)
	}
}
