package speaker

import (
	"testing"

	"wayfinder/api"
)

// TestKeepsNoMore: of what is lost nothing is kept, of what is refused its Next alone, and of a peer that is down nothing at all.
func TestKeepsNoMore(t *testing.T) {
	s, _ := New(api.SpeakerConfig{Domain: 1, Id: 2, Peers: []api.SpeakerPeer{{Domain: 3, Id: 4}, {Domain: 5, Id: 6}}})
	keeps := func(what string, tells, told, own, costs int) {
		t.Helper()
		if len(s.peers[0].tells) != tells || len(s.peers[1].told) != told || len(s.own) != own || len(s.costs) != costs {
			t.Errorf("%s: %d, %d, %d, %d are kept, must be %d, %d, %d, %d", what, len(s.peers[0].tells), len(s.peers[1].told), len(s.own), len(s.costs), tells, told, own, costs)
		}
	}
	update := func(have bool, path ...int) api.PvMessage {
		if !have {
			return api.PvMessage{Kind: api.PvUpdate, Lost: []api.Prefix{{}}}
		}
		return api.PvMessage{Kind: api.PvUpdate, Have: []api.Prefix{{}}, Route: api.Route{Path: path, Med: 7, Next: 8, Marks: []int{9}}}
	}
	s.Up(0)
	s.Up(1)
	s.Costs([]api.NextCost{{Next: 8}, {Next: 9}})
	for range 3 {
		s.Hear(0, update(true, 3))
		keeps("told", 1, 1, 0, 2)
		s.Hear(0, update(false))
		keeps("lost", 0, 0, 0, 2)
	}
	s.Hear(0, update(true, 3, 1))
	keeps("refused", 1, 0, 0, 2)
	if got := s.peers[0].tells[api.Prefix{}]; !got.refused || !isSame(got.Route, api.Route{Next: 8}) {
		t.Errorf("refused: %+v is kept", got)
	}
	s.Own([]api.Route{{}, {Prefix: api.Prefix{Len: 1}}})
	keeps("own", 1, 2, 2, 2)
	s.Down(0)
	s.Down(1)
	keeps("down", 0, 0, 2, 2)
	s.Own(nil)
	s.Costs(nil)
	keeps("nothing", 0, 0, 0, 0)
}
