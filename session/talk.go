package session

import (
	"wayfinder/api"
	"wayfinder/pv"
)

// moveTo does what the time asks for, which comes ahead of all that a call is made for.
func (s *Session) moveTo(now int) api.SessionOut {
	var out api.SessionOut
	s.clock = max(s.clock, now)
	switch {
	case s.isIdle() || s.wait == 0:
	case s.clock-s.heard >= s.wait:
		s.end(&out, api.EndHold)
	case s.state != api.SessionOpening && s.clock-s.sent >= s.wait/aliveParts:
		s.send(&out, api.PvMessage{Kind: api.PvAlive})
	}
	return out
}

// send puts a message behind what the call has sent.
func (s *Session) send(out *api.SessionOut, m api.PvMessage) api.Errno {
	b, e := pv.Encode(m)
	if e != api.OK {
		return e
	}
	out.Bytes = append(out.Bytes, b...)
	s.sent = s.clock
	return api.OK
}

func (s *Session) end(out *api.SessionOut, code int) {
	if code != api.EndTold {
		s.send(out, api.PvMessage{Kind: api.PvNotice, Code: code})
	}
	if s.state == api.SessionUp {
		tell(out, api.SessionEvent{Kind: api.EventDown, Code: code})
	}
	s.state, s.talk = api.SessionIdle, talk{}
}

func tell(out *api.SessionOut, event api.SessionEvent) { out.Events = append(out.Events, event) }

// hear does what a message asks for. The session is not idle.
func (s *Session) hear(out *api.SessionOut, m api.PvMessage) {
	switch {
	case m.Kind == api.PvNotice:
		s.end(out, api.EndTold)
	case s.state == api.SessionOpening && m.Kind == api.PvOpen:
		s.hearOpen(out, m)
	case s.state == api.SessionConfirming && m.Kind == api.PvAlive:
		s.state = api.SessionUp
		tell(out, api.SessionEvent{Kind: api.EventUp, Id: s.other, Hold: s.wait})
	case s.state == api.SessionUp && m.Kind == api.PvUpdate:
		tell(out, api.SessionEvent{Kind: api.EventTold, Message: m})
	case s.state == api.SessionUp && m.Kind == api.PvAlive:
	default:
		s.end(out, api.EndPlace)
	}
}

func (s *Session) hearOpen(out *api.SessionOut, m api.PvMessage) {
	switch {
	case m.Domain != s.config.Peer:
		s.end(out, api.EndPeer)
		return
	case m.Id == s.config.Id:
		s.end(out, api.EndSelf)
		return
	}
	s.state, s.other = api.SessionConfirming, m.Id
	s.wait = min(s.config.Hold, m.Hold) // 0 stands for ever, and is the least of all
	s.send(out, api.PvMessage{Kind: api.PvAlive})
}
