package pv

import (
	"testing"

	"wayfinder/api"
)

// TestKeepsNoMore: a stream keeps the bytes of the message that is not whole, and nothing of those that were.
func TestKeepsNoMore(t *testing.T) {
	alive, _ := Encode(api.PvMessage{Kind: api.PvAlive})
	s := NewStream()
	for i := range 1000 {
		s.Take(alive)
		if s.begun != nil {
			t.Fatalf("behind %d messages %x is kept", i+1, s.begun)
		}
	}
	for _, c := range []byte{255, 255, 255, 255, 4, 0} {
		s.Take([]byte{c})
	}
	s.Take(make([]byte, 1000))
	if len(s.begun) != 1006 || cap(s.begun) > 4*api.MaxPv {
		t.Errorf("%d bytes are kept, in room for %d", len(s.begun), cap(s.begun))
	}
	s.Take(make([]byte, 1<<20))
	if s.begun != nil || s.fault != api.ErrSum {
		t.Errorf("behind a fault %x is kept", s.begun)
	}
}
