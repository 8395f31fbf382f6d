package session_test

import (
	"bytes"
	"fmt"
	"testing"

	"wayfinder/api"
	"wayfinder/pv"
	"wayfinder/session"
)

// top is the greatest number of four bytes.
const top = 1<<32 - 1

var (
	mine   = api.SessionConfig{Domain: 1, Id: 2, Hold: 30, Peer: 3}
	myOpen = api.PvMessage{Kind: api.PvOpen, Domain: 1, Id: 2, Hold: 30}
	open   = api.PvMessage{Kind: api.PvOpen, Domain: 3, Id: 9, Hold: 12}
	alive  = api.PvMessage{Kind: api.PvAlive}
	update = api.PvMessage{Kind: api.PvUpdate, Lost: []api.Prefix{{Addr: 0x0a000000, Len: 8}}}
	other  = api.PvMessage{Kind: api.PvUpdate, Have: []api.Prefix{{Addr: 0x0b000000, Len: 8}, {Addr: 0x0c000000, Len: 8}},
		Route: api.Route{Path: []int{3, 4}, Next: 5, Marks: []int{6, 7}, Clusters: []int{8, 9}}}
)

func notice(code int) api.PvMessage { return api.PvMessage{Kind: api.PvNotice, Code: code} }

var isUp = api.SessionEvent{Kind: api.EventUp, Id: 9, Hold: 12}

func isDown(code int) api.SessionEvent { return api.SessionEvent{Kind: api.EventDown, Code: code} }

func isTold(m api.PvMessage) api.SessionEvent {
	return api.SessionEvent{Kind: api.EventTold, Message: m}
}

// as gives the bytes of messages.
func as(messages ...api.PvMessage) []byte {
	var b []byte
	for _, m := range messages {
		c, e := pv.Encode(m)
		if e != api.OK {
			panic(e)
		}
		b = append(b, c...)
	}
	return b
}

// sent and happened make up what a call must answer.
func sent(m ...api.PvMessage) []api.PvMessage { return m }

func happened(e ...api.SessionEvent) []api.SessionEvent { return e }

// show makes no difference between lists that are empty and that are not there.
func show(a any) string { return fmt.Sprintf("%+v", a) }

// must holds an answer, and how the session stands then, to what they must be.
func must(t *testing.T, what string, s *session.Session, out api.SessionOut, messages []api.PvMessage, events []api.SessionEvent, state int) {
	t.Helper()
	if !bytes.Equal(out.Bytes, as(messages...)) || show(out.Events) != show(events) || s.State() != state {
		got, e := pv.NewStream().Take(out.Bytes)
		t.Errorf("%s: it sends %+v %v; %+v; state %d\nand must send %+v; %+v; state %d", what, got, e, out.Events, s.State(), messages, events, state)
	}
}

func made(t *testing.T, c api.SessionConfig) *session.Session {
	t.Helper()
	s, e := session.New(c)
	if s == nil || e != api.OK {
		t.Fatalf("New %+v: %v %v", c, s, e)
	}
	return s
}

// opening, confirming and up give a session that stands so since a time; both wait 12.
func opening(t *testing.T, now int) *session.Session {
	t.Helper()
	s := made(t, mine)
	must(t, "Start", s, s.Start(now), sent(myOpen), nil, api.SessionOpening)
	return s
}

func confirming(t *testing.T, now int) *session.Session {
	t.Helper()
	s := opening(t, now)
	must(t, "an open", s, s.Receive(as(open), now), sent(alive), nil, api.SessionConfirming)
	return s
}

func up(t *testing.T, now int) *session.Session {
	t.Helper()
	s := confirming(t, now)
	must(t, "an alive", s, s.Receive(as(alive), now), nil, happened(isUp), api.SessionUp)
	return s
}

// calls are all calls that are told a time, those that say nothing more first; Tell and Receive with something.
var calls = []struct {
	name string
	call func(s *session.Session, now int) api.SessionOut
}{
	{"Tick", func(s *session.Session, now int) api.SessionOut { return s.Tick(now) }},
	{"Receive nothing", func(s *session.Session, now int) api.SessionOut { return s.Receive(nil, now) }},
	{"Tell no update", func(s *session.Session, now int) api.SessionOut { out, _ := s.Tell(alive, now); return out }},
	{"Start", func(s *session.Session, now int) api.SessionOut { return s.Start(now) }},
	{"Stop", func(s *session.Session, now int) api.SessionOut { return s.Stop(now) }},
	{"Receive", func(s *session.Session, now int) api.SessionOut { return s.Receive(as(update), now) }},
	{"Tell", func(s *session.Session, now int) api.SessionOut { out, _ := s.Tell(other, now); return out }},
}
