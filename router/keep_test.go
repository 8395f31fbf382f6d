package router

import (
	"testing"

	"wayfinder/api"
)

// TestKeepsNoMore: what was handed out is not kept, and what comes and goes leaves nothing behind.
func TestKeepsNoMore(t *testing.T) {
	all := api.Prefix{}
	r, e := New(api.RouterConfig{
		Lsr:     api.LsrConfig{ID: 1, Ports: []api.LsrPort{{Link: 0, Cost: 1}}},
		Speaker: api.SpeakerConfig{Domain: 1, Id: 1, Peers: []api.SpeakerPeer{{Domain: 2, Id: 2}}},
		Peers:   []api.RouterPeer{{Link: 7}},
		Fixed:   []api.Fixed{{Prefix: all, Links: []int{7}}},
	})
	if e != api.OK {
		t.Fatal(e)
	}
	keeps := func(what string, ends, words int) {
		t.Helper()
		if len(r.ends) != ends || len(r.memory) > words || len(r.sent) != 0 || len(r.come) != 0 {
			t.Errorf("%s: it keeps %d interfaces, %d words, %d and %d frames", what, len(r.ends), len(r.memory), len(r.sent), len(r.come))
		}
	}
	// Two rows make no more words than chapter 3 says.
	for range 50 {
		for _, link := range []int{0, 7, 9, -1, 65536} {
			r.Up(link)
			r.Receive(link, []byte{api.FrameData, 0, 0, 0, 1, 9})
			r.Receive(link, []byte{api.FrameData, 0, 0, 0, 2, 9})
			r.Receive(link, []byte{api.FramePeer, 255})
		}
		r.Tick()
		for _, link := range []int{0, 7, 9, -1, 65536} {
			r.Down(link)
		}
		r.Take()
		r.Come()
		keeps("it comes and goes", 2, 256+80*2)
	}
}
