package router_test

import (
	"math"
	"strings"
	"testing"

	"wayfinder/api"
)

func TestN5Refuses(t *testing.T) {
	g := ready(t)
	g.ok(g.down(lastLink))
	g.take()
	long := data(0x0a050001, 9, strings.Repeat("x", api.MaxData+1))
	frames := [][]byte{nil, {}, {0}, {4}, {255, 1}, {api.FrameLsr}, {api.FramePeer, 1}, {api.FrameData}, hello(), frameOf(alive), data(5, 9, ""), long}
	for _, f := range frames {
		for _, link := range []int{math.MinInt, -1, noLink, 65536, math.MaxInt} {
			g.refuses("of none", api.ErrNone, func() api.Errno { return g.receive(link, f) })
		}
		g.refuses("down", api.ErrState, func() api.Errno { return g.receive(lastLink, f) })
	}
	for _, link := range []int{portLink, bothLink, peerLink} {
		no := func(what string, want api.Errno, frames ...[]byte) {
			t.Helper()
			for _, f := range frames {
				g.refuses(what, want, func() api.Errno { return g.receive(link, f) })
			}
		}
		no("no byte", api.ErrForm, nil, []byte{})
		no("no kind", api.ErrKind, []byte{0}, []byte{4}, []byte{255, 1}, append([]byte{4}, hello()[1:]...))
		for n := 1; n < 6; n++ {
			no("short data", api.ErrForm, data(0x0a050001, 9, "")[:n])
		}
		no("much data", api.ErrForm, long, append(long, long...))
	}
	g.refuses("a packet at no port", api.ErrKind, func() api.Errno { return g.receive(peerLink, hello()) })
	g.refuses("no packet at no port", api.ErrKind, func() api.Errno { return g.receive(peerLink, []byte{api.FrameLsr}) })
	g.refuses("a message at no peer's", api.ErrKind, func() api.Errno { return g.receive(portLink, frameOf(alive)) })
	g.refuses("nothing at no peer's", api.ErrKind, func() api.Errno { return g.receive(portLink, []byte{api.FramePeer}) })
}

// TestN5PacketsRefused: what lsr says of them.
func TestN5PacketsRefused(t *testing.T) {
	g := ready(t)
	bent := hello()
	bent[9] ^= 1
	for _, link := range []int{portLink, bothLink} {
		g.refuses("nothing", api.ErrForm, func() api.Errno { return g.receive(link, []byte{api.FrameLsr}) })
		g.refuses("short", api.ErrForm, func() api.Errno { return g.receive(link, hello()[:20]) })
		g.refuses("long", api.ErrLong, func() api.Errno {
			return g.receive(link, append([]byte{api.FrameLsr}, make([]byte, api.MaxPacket+1)...))
		})
		g.refuses("bent", api.ErrSum, func() api.Errno { return g.receive(link, bent) })
	}
}

// TestN5Packets: they are heard over the port over which they come, and a turn is made.
func TestN5Packets(t *testing.T) {
	g := ready(t)
	g.ok(g.receive(portLink, hello()))
	g.went("a hello", "0 hello 9", "0 update of 5")
	g.ok(g.receive(portLink, ofNine(1, api.LsStub{Prefix: fourteen, Cost: 3})))
	g.went("an update", "0 ack of 9")
	g.rows("an update", "0.0.0.9/32 4 1 [0]", "14.0.0.0/8 4 4 [0]")
	// What does not count is no error.
	g.ok(g.receive(bothLink, ofNine(2)))
	g.went("of no neighbour")
	g.rows("of no neighbour", "0.0.0.9/32 4 1 [0]", "14.0.0.0/8 4 4 [0]")
}

// TestN5Sessions: bytes come in whatever pieces; what is wrong with them ends the session, and is no error.
func TestN5Sessions(t *testing.T) {
	g := ready(t)
	f := frameOf(have(1, nil, eleven), have(1, []int{9}, twelve))
	g.ok(g.receive(peerLink, f[:1]))
	for _, b := range f[1 : len(f)-1] {
		g.ok(g.receive(peerLink, []byte{api.FramePeer, b}))
	}
	g.rows("all but a byte", "11.0.0.0/8 3 0 [7]")
	g.went("all but a byte", "1 have 11.0.0.0/8 [1 3] 50", "8 have 11.0.0.0/8 [1 3] 50")
	g.ok(g.receive(peerLink, []byte{api.FramePeer, f[len(f)-1]}))
	g.rows("all", "11.0.0.0/8 3 0 [7]", "12.0.0.0/8 3 0 [7]")
	g.went("all", "1 have 12.0.0.0/8 [1 3 9] 50", "8 have 12.0.0.0/8 [1 3 9] 50")
	g.ok(g.receive(peerLink, []byte{api.FramePeer, 7}))
	g.went("a wrong byte", "7 notice 1", "1 lost 11.0.0.0/8", "1 lost 12.0.0.0/8", "8 lost 11.0.0.0/8", "8 lost 12.0.0.0/8")
	g.rows("a wrong byte")
	// An idle session hears nothing.
	g.ok(g.receive(peerLink, f))
	g.went("idle")
}

// TestN5Data: it goes on from whatever interface it comes, and no turn is made.
func TestN5Data(t *testing.T) {
	g := ready(t)
	for _, link := range []int{portLink, bothLink, peerLink, lastLink} {
		g.ok(g.receive(link, data(0x0a050001, 1, "")))
		g.ok(g.receive(link, data(80, 9, strings.Repeat("y", api.MaxData))))
		g.came("the least", `10.5.0.1 ""`)
		g.went("the most", `7 data 0.0.0.80 8 "`+strings.Repeat("y", api.MaxData)+`"`)
	}
}
