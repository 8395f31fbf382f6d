package session

import (
	"testing"

	"wayfinder/api"
	"wayfinder/pv"
)

// TestKeepsNoMore: a session that is idle keeps what it is, and its clock, and nothing of what was said.
func TestKeepsNoMore(t *testing.T) {
	s, _ := New(api.SessionConfig{Domain: 1, Id: 2, Hold: 30, Peer: 3})
	open, _ := pv.Encode(api.PvMessage{Kind: api.PvOpen, Domain: 3, Id: 9, Hold: 12})
	ends := []func(){
		func() { s.Stop(1000) },
		func() { s.Receive(make([]byte, 20), 1000) },
		func() { s.Receive(open, 1000) },
		func() { s.Tick(2000) },
	}
	for i, end := range ends {
		s.Start(1000)
		s.Receive(open, 1000)
		s.Receive(open[:8], 1000)
		end()
		if s.state != api.SessionIdle || s.talk != (talk{}) {
			t.Errorf("end %d: %+v", i, s)
		}
	}
}
