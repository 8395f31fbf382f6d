package session_test

import (
	"bytes"
	"math"
	"math/rand"
	"slices"
	"testing"

	"wayfinder/api"
	"wayfinder/session"
)

func TestP1Anything(t *testing.T) {
	r := rand.New(rand.NewSource(6))
	times := []int{math.MinInt, -1, 0, 1, 240, 241, 1 << 40, math.MaxInt - 1, math.MaxInt}
	kinds := []int{math.MinInt, -1, 0, 1, 2, 3, 4, 5, math.MaxInt}
	for range 2000 {
		s := made(t, mine)
		for range 20 {
			now := times[r.Intn(len(times))]
			n := kinds[r.Intn(len(kinds))]
			b := make([]byte, r.Intn(20))
			r.Read(b)
			switch r.Intn(6) {
			case 0:
				s.Start(now)
			case 1:
				s.Stop(now)
			case 2:
				s.Receive(b, now)
			case 3:
				s.Receive(as(open, alive, update)[:r.Intn(45)], now)
			case 4:
				s.Tell(api.PvMessage{Kind: n, Domain: n, Id: n, Hold: n, Code: n, Lost: []api.Prefix{{Len: n}}, Route: api.Route{Path: []int{n}, Origin: n}}, now)
			default:
				s.Tick(now)
			}
			if state := s.State(); state < api.SessionIdle || state > api.SessionUp {
				t.Fatalf("state %d", state)
			}
		}
	}
}

// TestP2OnlyRead: what is handed in is read, with the room behind it, and not kept.
func TestP2OnlyRead(t *testing.T) {
	s := opening(t, 0)
	whole := as(open, alive, other, update)
	for cut := 1; cut < len(whole); cut++ {
		s.Stop(0)
		s.Start(0)
		first := append(slices.Clone(whole[:cut]), 7, 7, 7)[:cut]
		one := s.Receive(first, 0)
		if !bytes.Equal(first[:cut+3], append(slices.Clone(whole[:cut]), 7, 7, 7)) {
			t.Fatalf("what was handed in is %x now", first[:cut+3])
		}
		clear(first[:cut+3])
		two := s.Receive(whole[cut:], 0)
		must(t, "in two pieces", s, api.SessionOut{Bytes: slices.Concat(one.Bytes, two.Bytes), Events: slices.Concat(one.Events, two.Events)}, sent(alive), happened(isUp, isTold(other), isTold(update)), api.SessionUp)
	}
	m := other
	m.Have = append(slices.Clone(other.Have), api.Prefix{Len: 7})[:2]
	m.Route.Path = append(slices.Clone(other.Route.Path), 7)[:2]
	before := show([]any{m.Have[:3], m.Route.Path[:3], m})
	s = up(t, 0)
	s.Tell(m, 0)
	if after := show([]any{m.Have[:3], m.Route.Path[:3], m}); after != before {
		t.Errorf("what was handed in is %s now", after)
	}
}

// TestP2NewMemory: an answer is the caller's; who writes into it, or behind it, changes no other one.
func TestP2NewMemory(t *testing.T) {
	s := up(t, 0)
	b := as(other, other)
	first := s.Receive(b, 0)
	clear(b)
	x := first.Events[0].Message
	clear(x.Have[:cap(x.Have)])
	clear(x.Route.Path[:cap(x.Route.Path)])
	clear(x.Route.Marks[:cap(x.Route.Marks)])
	clear(x.Route.Clusters[:cap(x.Route.Clusters)])
	must(t, "the second", s, api.SessionOut{Events: first.Events[1:]}, nil, happened(isTold(other)), api.SessionUp)
	one, _ := s.Tell(update, 0)
	clear(one.Bytes[:cap(one.Bytes)])
	two, _ := s.Tell(update, 0)
	must(t, "told again", s, two, sent(update), nil, api.SessionUp)
	alives := s.Tick(4)
	clear(alives.Bytes[:cap(alives.Bytes)])
	must(t, "an alive", s, s.Tick(8), sent(alive), nil, api.SessionUp)
}

// TestP3OnNothingElse: sessions do not hang on each other, nor on who asks how they stand.
func TestP3OnNothingElse(t *testing.T) {
	r := rand.New(rand.NewSource(7))
	for range 300 {
		seed := r.Int63()
		run := func(among bool) string {
			r := rand.New(rand.NewSource(seed))
			s, beside := made(t, mine), made(t, mine)
			d := &diary{config: mine}
			var all []string
			var rest []byte
			now := 0
			for range 40 {
				now += r.Intn(5)
				_, e, _, out := play(r, s, d, &rest, now)
				all = append(all, show(out), show(e))
				if among {
					beside.Start(now * 7)
					beside.Receive(as(open, alive), now*7)
					beside.Tell(update, now*7)
					s.State()
					_, _ = session.New(api.SessionConfig{})
				}
			}
			return show(all)
		}
		if alone, among := run(false), run(true); alone != among {
			t.Fatalf("alone\n%s\nand among others\n%s", alone, among)
		}
	}
}
