package session_test

import (
	"math"
	"slices"
	"testing"

	"wayfinder/api"
	"wayfinder/session"
)

func TestK1(t *testing.T) {
	ask := func(c api.SessionConfig, right bool) {
		t.Helper()
		s, e := session.New(c)
		if right != (e == api.OK) || right != (s != nil) || !right && e != api.ErrRange {
			t.Errorf("New %+v: %v %v", c, s, e)
		}
		if s != nil && s.State() != api.SessionIdle {
			t.Errorf("New %+v is in state %d", c, s.State())
		}
	}
	for _, n := range []int{math.MinInt, -1 << 32, -1, 0, 1, 2, 3, 65535, 65536, top - 1, top, top + 1, top + 2, math.MaxInt} {
		right := n >= 1 && n <= 4294967295
		ask(api.SessionConfig{Domain: n, Id: 2, Peer: 3}, right)
		ask(api.SessionConfig{Domain: 1, Id: n, Peer: 3}, right)
		ask(api.SessionConfig{Domain: 1, Id: 2, Peer: n}, right)
		ask(api.SessionConfig{Domain: n, Id: n, Hold: 90, Peer: n}, right)
		ask(api.SessionConfig{Domain: 1, Id: 2, Hold: n, Peer: 3}, n == 0 || n >= 3 && n <= 65535)
	}
	ask(api.SessionConfig{}, false)
	s := made(t, mine)
	for _, now := range []int{math.MinInt, 0, 500, math.MaxInt} {
		for _, c := range calls[:3] {
			must(t, "idle: "+c.name, s, c.call(s, now), nil, nil, api.SessionIdle)
		}
	}
	// The clock is 0: a start below that is a start at 0.
	s = made(t, mine)
	s.Start(-100)
	must(t, "not yet", s, s.Tick(239), nil, nil, api.SessionOpening)
	must(t, "now", s, s.Tick(240), sent(notice(api.EndHold)), nil, api.SessionIdle)
}

func TestK2NobodyOpens(t *testing.T) {
	if api.OpenHold != 240 {
		t.Fatal("240 ticks are waited")
	}
	for _, hold := range []int{0, 3, 65535} {
		for _, c := range calls[:3] {
			s := made(t, api.SessionConfig{Domain: 1, Id: 2, Hold: hold, Peer: 3})
			s.Start(7)
			for now := range 7 + 240 {
				must(t, "no alive while it is opening", s, c.call(s, now), nil, nil, api.SessionOpening)
			}
			must(t, "held", s, c.call(s, 7+240), sent(notice(api.EndHold)), nil, api.SessionIdle)
			must(t, "once", s, c.call(s, 1000), nil, nil, api.SessionIdle)
		}
	}
	s := opening(t, 7)
	s.Receive(as(open)[:5], 107)
	s.Receive(nil, 207)
	s.Receive([]byte{}, 207)
	must(t, "a byte came", s, s.Tick(346), nil, nil, api.SessionOpening)
	must(t, "a byte came", s, s.Tick(347), sent(notice(api.EndHold)), nil, api.SessionIdle)
}

// TestK2Held: whatever a call is for, the time comes first.
func TestK2Held(t *testing.T) {
	for _, later := range []int{12, 13, 100, math.MaxInt - 50} {
		for _, c := range calls {
			s := up(t, 50)
			if c.name == "Start" {
				must(t, "up: Start", s, s.Start(50+later), sent(notice(api.EndHold), myOpen), happened(isDown(api.EndHold)), api.SessionOpening)
				s = confirming(t, 50)
				must(t, "confirming: Start", s, s.Start(50+later), sent(notice(api.EndHold), myOpen), nil, api.SessionOpening)
				continue
			}
			must(t, "up: "+c.name, s, c.call(s, 50+later), sent(notice(api.EndHold)), happened(isDown(api.EndHold)), api.SessionIdle)
			must(t, "up: "+c.name+" again", s, c.call(s, 50+later), nil, nil, api.SessionIdle)
			s = confirming(t, 50)
			must(t, "confirming: "+c.name, s, c.call(s, 50+later), sent(notice(api.EndHold)), nil, api.SessionIdle)
		}
	}
	s := up(t, 50)
	if _, e := s.Tell(update, 62); e != api.ErrState {
		t.Errorf("Tell when it has ended: %v", e)
	}
}

// TestK2Heard: bytes count, whole messages or not, and none that did not come.
func TestK2Heard(t *testing.T) {
	s := up(t, 0)
	b := as(alive, update)
	now := 0
	for i := range b {
		now += 11
		s.Tick(now - 1)
		s.Receive(b[i:i+1], now)
		if s.State() != api.SessionUp {
			t.Fatalf("behind %d bytes it is %d", i+1, s.State())
		}
	}
	s.Receive(nil, now+5)
	s.Tell(other, now+6)
	s.Start(now + 7)
	must(t, "not yet", s, s.Tick(now+11), sent(alive), nil, api.SessionUp)
	must(t, "held", s, s.Tick(now+12), sent(notice(api.EndHold)), happened(isDown(api.EndHold)), api.SessionIdle)
}

func TestK2BothWait(t *testing.T) {
	for _, c := range []struct{ mine, others, both int }{
		{30, 12, 12}, {12, 30, 12}, {3, 65535, 3}, {65535, 65535, 65535}, {4, 3, 3}, {5, 5, 5}, {0, 12, 0}, {12, 0, 0}, {0, 0, 0}, {65535, 3, 3}, {300, 290, 290},
	} {
		s := made(t, api.SessionConfig{Domain: 1, Id: 2, Hold: c.mine, Peer: 3})
		s.Start(0)
		must(t, "an open", s, s.Receive(as(api.PvMessage{Kind: api.PvOpen, Domain: 3, Id: 9, Hold: c.others}), 0), sent(alive), nil, api.SessionConfirming)
		event := api.SessionEvent{Kind: api.EventUp, Id: 9, Hold: c.both}
		must(t, "up", s, s.Receive(as(alive), 0), nil, happened(event), api.SessionUp)
		if c.both == 0 {
			for _, now := range []int{1, 3, 240, 100000, math.MaxInt} {
				must(t, "for ever", s, s.Tick(now), nil, nil, api.SessionUp)
			}
			continue
		}
		third := c.both / 3
		if third > 1 {
			must(t, "no alive yet", s, s.Tick(third-1), nil, nil, api.SessionUp)
		}
		must(t, "an alive", s, s.Tick(third), sent(alive), nil, api.SessionUp)
		must(t, "one alive", s, s.Tick(third), nil, nil, api.SessionUp)
		must(t, "one alive, however late", s, s.Tick(c.both-1), sent(alive), nil, api.SessionUp)
		must(t, "held", s, s.Tick(c.both), sent(notice(api.EndHold)), happened(isDown(api.EndHold)), api.SessionIdle)
	}
}

// TestK2Alive: an alive is sent ahead of what the call is for, and whatever is sent puts the next one off.
func TestK2Alive(t *testing.T) {
	for _, stand := range []struct {
		state int
		make  func(*testing.T, int) *session.Session
	}{{api.SessionConfirming, confirming}, {api.SessionUp, up}} {
		for _, c := range calls[:4] {
			s := stand.make(t, 20)
			must(t, c.name, s, c.call(s, 23), nil, nil, stand.state)
			must(t, c.name, s, c.call(s, 24), sent(alive), nil, stand.state)
			must(t, c.name, s, c.call(s, 27), nil, nil, stand.state)
			must(t, c.name, s, c.call(s, 28), sent(alive), nil, stand.state)
			must(t, c.name, s, c.call(s, 31), nil, nil, stand.state)
			s = stand.make(t, 20)
			must(t, c.name+" later", s, c.call(s, 31), sent(alive), nil, stand.state)
		}
	}
	s := up(t, 20)
	must(t, "Stop", s, s.Stop(24), sent(alive, notice(api.EndStop)), happened(isDown(api.EndStop)), api.SessionIdle)
	s = up(t, 20)
	must(t, "Receive", s, s.Receive(as(update), 24), sent(alive), happened(isTold(update)), api.SessionUp)
	s = up(t, 20)
	must(t, "Receive a notice", s, s.Receive(as(notice(6)), 24), sent(alive), happened(isDown(api.EndTold)), api.SessionIdle)
	s = confirming(t, 20)
	must(t, "Receive an alive", s, s.Receive(as(alive), 24), sent(alive), happened(isUp), api.SessionUp)
	s = up(t, 20)
	out, e := s.Tell(other, 24)
	must(t, "Tell", s, out, sent(alive, other), nil, api.SessionUp)
	if e != api.OK {
		t.Errorf("Tell: %v", e)
	}
	s = up(t, 20)
	s.Tell(other, 23)
	must(t, "what was told puts it off", s, s.Tick(26), nil, nil, api.SessionUp)
	must(t, "what was told puts it off", s, s.Tick(27), sent(alive), nil, api.SessionUp)
	// What was sent while it was opening counts from the alive on that answers the open.
	s = opening(t, 20)
	s.Receive(as(open), 60)
	must(t, "no alive yet", s, s.Tick(63), nil, nil, api.SessionConfirming)
	must(t, "an alive", s, s.Tick(64), sent(alive), nil, api.SessionConfirming)
}

func TestK2Clock(t *testing.T) {
	s := up(t, 100)
	for _, now := range []int{99, 0, -5, math.MinInt, 100, 103} {
		must(t, "no time has gone by", s, s.Tick(now), nil, nil, api.SessionUp)
	}
	must(t, "what comes early comes now", s, s.Receive(as(alive), 4), nil, nil, api.SessionUp)
	must(t, "it came at 103", s, s.Tick(114), sent(alive), nil, api.SessionUp)
	must(t, "it came at 103", s, s.Tick(115), sent(notice(api.EndHold)), happened(isDown(api.EndHold)), api.SessionIdle)
	// The clock stands on while it is idle.
	s.Tick(1000)
	s.Start(0)
	must(t, "started at 1000", s, s.Tick(1239), nil, nil, api.SessionOpening)
	must(t, "started at 1000", s, s.Tick(1240), sent(notice(api.EndHold)), nil, api.SessionIdle)
	// Calls that are refused or do nothing move it, too.
	for _, c := range calls[:3] {
		s := made(t, mine)
		c.call(s, 500)
		s.Start(3)
		must(t, "started at 500", s, s.Tick(739), nil, nil, api.SessionOpening)
		must(t, "started at 500", s, s.Tick(740), sent(notice(api.EndHold)), nil, api.SessionIdle)
	}
}

func TestK3K4(t *testing.T) {
	for _, c := range []api.SessionConfig{mine, {Domain: top, Id: top, Hold: 65535, Peer: top}, {Domain: 1, Id: 1, Peer: 1}} {
		s := made(t, c)
		open := api.PvMessage{Kind: api.PvOpen, Domain: c.Domain, Id: c.Id, Hold: c.Hold}
		must(t, "Start", s, s.Start(0), sent(open), nil, api.SessionOpening)
		must(t, "Start again", s, s.Start(0), nil, nil, api.SessionOpening)
		must(t, "Stop", s, s.Stop(0), sent(notice(api.EndStop)), nil, api.SessionIdle)
		must(t, "Stop again", s, s.Stop(0), nil, nil, api.SessionIdle)
		must(t, "Start anew", s, s.Start(0), sent(open), nil, api.SessionOpening)
	}
	s := confirming(t, 5)
	must(t, "confirming: Start", s, s.Start(5), nil, nil, api.SessionConfirming)
	must(t, "confirming: Stop", s, s.Stop(5), sent(notice(api.EndStop)), nil, api.SessionIdle)
	s = up(t, 5)
	must(t, "up: Start", s, s.Start(5), nil, nil, api.SessionUp)
	must(t, "up: Stop", s, s.Stop(5), sent(notice(api.EndStop)), happened(isDown(api.EndStop)), api.SessionIdle)
}

// TestK4Forgotten: a talk knows nothing of the one ahead of it.
func TestK4Forgotten(t *testing.T) {
	s := made(t, mine)
	must(t, "idle", s, s.Receive(as(open, alive), 0), nil, nil, api.SessionIdle)
	must(t, "idle", s, s.Receive([]byte{9, 9}, 0), nil, nil, api.SessionIdle)
	s.Start(0)
	s.Receive(as(open)[:7], 0)
	s.Stop(0)
	s.Receive(as(open)[7:], 0)
	must(t, "half an open was forgotten", s, s.Start(0), sent(myOpen), nil, api.SessionOpening)
	must(t, "an open", s, s.Receive(as(open), 0), sent(alive), nil, api.SessionConfirming)
	s.Stop(0)
	s.Start(0)
	must(t, "an open was forgotten", s, s.Receive(as(alive), 0), sent(notice(api.EndPlace)), nil, api.SessionIdle)
	s.Start(0)
	must(t, "a fault", s, s.Receive([]byte{9}, 0), sent(notice(api.EndBytes)), nil, api.SessionIdle)
	s.Start(0)
	must(t, "a fault was forgotten", s, s.Receive(as(open), 0), sent(alive), nil, api.SessionConfirming)
	s.Stop(0)
	// What both waited is forgotten, too, and so is when a byte came and something was sent.
	s = up(t, 10)
	s.Receive(as(alive), 15)
	s.Stop(15)
	s.Start(20)
	must(t, "no alive", s, s.Tick(259), nil, nil, api.SessionOpening)
	must(t, "held", s, s.Tick(260), sent(notice(api.EndHold)), nil, api.SessionIdle)
	// The rest of what came with the end is forgotten.
	s = opening(t, 0)
	s.Receive(append(as(notice(1), open, alive), 9, 9), 0)
	s.Start(0)
	must(t, "an open", s, s.Receive(as(open), 0), sent(alive), nil, api.SessionConfirming)
}

func TestK5Opening(t *testing.T) {
	with := func(domain, id, hold int) api.PvMessage {
		return api.PvMessage{Kind: api.PvOpen, Domain: domain, Id: id, Hold: hold}
	}
	for _, c := range []struct {
		what   string
		m      api.PvMessage
		answer api.PvMessage
		state  int
	}{
		{"an open", open, alive, api.SessionConfirming},
		{"an open of any Id", with(3, 1, 0), alive, api.SessionConfirming},
		{"an open of any Id", with(3, top, 0), alive, api.SessionConfirming},
		{"another domain", with(4, 9, 12), notice(api.EndPeer), api.SessionIdle},
		{"the own domain", with(1, 9, 12), notice(api.EndPeer), api.SessionIdle},
		{"another domain, and the own Id", with(1, 2, 12), notice(api.EndPeer), api.SessionIdle},
		{"the own Id", with(3, 2, 12), notice(api.EndSelf), api.SessionIdle},
		{"an alive", alive, notice(api.EndPlace), api.SessionIdle},
		{"an update", update, notice(api.EndPlace), api.SessionIdle},
	} {
		s := opening(t, 0)
		must(t, c.what, s, s.Receive(as(c.m), 0), sent(c.answer), nil, c.state)
	}
	// One may speak with another one of its own domain.
	s := made(t, api.SessionConfig{Domain: 3, Id: 2, Hold: 30, Peer: 3})
	s.Start(0)
	must(t, "of one domain", s, s.Receive(as(open), 0), sent(alive), nil, api.SessionConfirming)
}

func TestK5Confirming(t *testing.T) {
	s := confirming(t, 0)
	must(t, "an alive", s, s.Receive(as(alive), 0), nil, happened(isUp), api.SessionUp)
	for _, m := range []api.PvMessage{open, update} {
		s = confirming(t, 0)
		must(t, "out of place", s, s.Receive(as(m), 0), sent(notice(api.EndPlace)), nil, api.SessionIdle)
	}
}

func TestK5Up(t *testing.T) {
	s := up(t, 0)
	must(t, "alives", s, s.Receive(as(alive, alive), 0), nil, nil, api.SessionUp)
	must(t, "updates", s, s.Receive(as(update, alive, other, update), 0), nil, happened(isTold(update), isTold(other), isTold(update)), api.SessionUp)
	must(t, "an open", s, s.Receive(as(open), 0), sent(notice(api.EndPlace)), happened(isDown(api.EndPlace)), api.SessionIdle)
}

func TestK5Notice(t *testing.T) {
	for code := range 256 {
		s := made(t, mine)
		must(t, "idle", s, s.Receive(as(notice(code)), 0), nil, nil, api.SessionIdle)
		s = opening(t, 0)
		must(t, "opening", s, s.Receive(as(notice(code)), 0), nil, nil, api.SessionIdle)
		s = confirming(t, 0)
		must(t, "confirming", s, s.Receive(as(notice(code)), 0), nil, nil, api.SessionIdle)
		s = up(t, 0)
		must(t, "up", s, s.Receive(as(notice(code)), 0), nil, happened(isDown(api.EndTold)), api.SessionIdle)
	}
}

func TestK5AllAtOnce(t *testing.T) {
	s := opening(t, 0)
	must(t, "to its end", s, s.Receive(as(open, alive, update, notice(1)), 0), sent(alive), happened(isUp, isTold(update), isDown(api.EndTold)), api.SessionIdle)
	s = opening(t, 0)
	must(t, "behind an end", s, s.Receive(as(open, alive, update, open, update, notice(1), open), 0), sent(alive, notice(api.EndPlace)), happened(isUp, isTold(update), isDown(api.EndPlace)), api.SessionIdle)
	s = opening(t, 0)
	must(t, "behind an end, and a fault", s, s.Receive(append(as(open, notice(1), update), 1, 2, 3), 0), sent(alive), nil, api.SessionIdle)
	s = opening(t, 0)
	must(t, "to a fault", s, s.Receive(append(as(open, alive, update), 1, 2, 3), 0), sent(alive, notice(api.EndBytes)), happened(isUp, isTold(update), isDown(api.EndBytes)), api.SessionIdle)
}

func TestK5Faults(t *testing.T) {
	bent := as(update)
	bent[len(bent)-1]++
	for _, b := range [][]byte{{0}, {255, 255, 254}, {255, 255, 255, 255, 0, 8}, {255, 255, 255, 255, 4, 1}, bent, {255, 255, 255, 255, 0, 9, 3, 0, 0}} {
		s := opening(t, 0)
		must(t, "opening", s, s.Receive(b, 0), sent(notice(api.EndBytes)), nil, api.SessionIdle)
		s = confirming(t, 0)
		must(t, "confirming", s, s.Receive(b, 0), sent(notice(api.EndBytes)), nil, api.SessionIdle)
		s = up(t, 0)
		must(t, "up", s, s.Receive(b, 0), sent(notice(api.EndBytes)), happened(isDown(api.EndBytes)), api.SessionIdle)
		s = up(t, 0)
		for i, c := range b {
			if out := s.Receive([]byte{c}, 0); i == len(b)-1 {
				must(t, "byte by byte", s, out, sent(notice(api.EndBytes)), happened(isDown(api.EndBytes)), api.SessionIdle)
			} else {
				must(t, "byte by byte, no fault yet", s, out, nil, nil, api.SessionUp)
			}
		}
	}
}

func TestK5ByteByByte(t *testing.T) {
	s := opening(t, 0)
	var got api.SessionOut
	for _, c := range as(open, alive, update, alive, other) {
		out := s.Receive([]byte{c}, 0)
		got.Bytes, got.Events = append(got.Bytes, out.Bytes...), append(got.Events, out.Events...)
	}
	must(t, "byte by byte", s, got, sent(alive), happened(isUp, isTold(update), isTold(other)), api.SessionUp)
}

func TestK6(t *testing.T) {
	wrong := api.PvMessage{Kind: api.PvUpdate, Lost: []api.Prefix{{Addr: 1}}}
	long := api.PvMessage{Kind: api.PvUpdate}
	for i := range 300 {
		long.Lost = append(long.Lost, api.Prefix{Addr: uint32(i), Len: 32})
	}
	type asked struct {
		m    api.PvMessage
		want api.Errno
	}
	all := []asked{
		{update, api.OK}, {other, api.OK}, {api.PvMessage{Kind: api.PvUpdate}, api.OK},
		{alive, api.ErrKind}, {open, api.ErrKind}, {notice(1), api.ErrKind}, {api.PvMessage{}, api.ErrKind}, {api.PvMessage{Kind: 5}, api.ErrKind}, {api.PvMessage{Kind: -1}, api.ErrKind},
		{api.PvMessage{Kind: api.PvAlive, Code: 1, Lost: wrong.Lost}, api.ErrKind},
		{wrong, api.ErrBits},
		{api.PvMessage{Kind: api.PvUpdate, Code: 1}, api.ErrForm},
		{api.PvMessage{Kind: api.PvUpdate, Lost: update.Lost, Have: update.Lost}, api.ErrTwice},
		{api.PvMessage{Kind: api.PvUpdate, Have: update.Lost, Route: api.Route{Origin: 3}}, api.ErrRange},
		{long, api.ErrLong},
	}
	for _, x := range all {
		s := up(t, 0)
		out, e := s.Tell(x.m, 1)
		var messages []api.PvMessage
		if x.want == api.OK {
			messages = sent(x.m)
		}
		must(t, "up", s, out, messages, nil, api.SessionUp)
		out, f := s.Tell(x.m, 11)
		must(t, "up, and it is time", s, out, append(sent(alive), messages...), nil, api.SessionUp)
		out, g := s.Tell(x.m, 12)
		must(t, "held", s, out, sent(notice(api.EndHold)), happened(isDown(api.EndHold)), api.SessionIdle)
		out, h := s.Tell(x.m, 12)
		must(t, "idle", s, out, nil, nil, api.SessionIdle)
		if !slices.Equal([]api.Errno{e, f, g, h}, []api.Errno{x.want, x.want, api.ErrState, api.ErrState}) {
			t.Errorf("%+v: %v %v %v %v, must be %v", x.m, e, f, g, h, x.want)
		}
		for _, s := range []*session.Session{opening(t, 0), confirming(t, 0)} {
			state := s.State()
			out, e := s.Tell(x.m, 1)
			if must(t, "not yet up", s, out, nil, nil, state); e != api.ErrState {
				t.Errorf("not yet up: %v", e)
			}
		}
		s = confirming(t, 0)
		out, e = s.Tell(x.m, 4)
		if must(t, "confirming, and it is time", s, out, sent(alive), nil, api.SessionConfirming); e != api.ErrState {
			t.Errorf("confirming: %v", e)
		}
	}
	// What was refused was not sent: it does not put an alive off.
	s := up(t, 0)
	s.Tell(wrong, 3)
	s.Tell(alive, 3)
	must(t, "an alive", s, s.Tick(4), sent(alive), nil, api.SessionUp)
}
