package router_test

import (
	"strings"
	"testing"

	"wayfinder/api"
)

// TestN6LongestPrefix: the row of the longest prefix counts, whatever its kind and wherever it leads.
func TestN6LongestPrefix(t *testing.T) {
	g := ready(t, func(c *api.RouterConfig) {
		c.Fixed = append(c.Fixed, api.Fixed{Prefix: pre(0, 0), Links: []int{lastLink}}, api.Fixed{Prefix: pre(0x0a050100, 24), Links: []int{peerLink}}, api.Fixed{Prefix: pre(0x0a000000, 8), Links: []int{bothLink}})
	})
	g.says(0, have(0, nil, pre(0x0a050180, 25)))
	g.take()
	for _, a := range []uint32{0x0b000000, 0x0a000000, 0x0a050000, 0x0a050100, 0x0a05017f, 0x0a050180, 0x0a0501ff, 0x0a050200, 0x0a060000, 0xffffffff} {
		g.ok(g.receive(peerLink, data(a, 9, "")))
	}
	g.went("all", `8 data 11.0.0.0 8 ""`, `1 data 10.0.0.0 8 ""`, `7 data 10.5.1.0 8 ""`, `7 data 10.5.1.127 8 ""`, `1 data 10.5.1.128 8 ""`, `1 data 10.5.1.255 8 ""`, `1 data 10.6.0.0 8 ""`, `8 data 255.255.255.255 8 ""`)
	g.came("all", `10.5.0.0 ""`, `10.5.2.0 ""`)
}

func TestN6Lost(t *testing.T) {
	g := ready(t)
	for _, a := range []uint32{0, 4, 6, 0x0a04ffff, 0x0a060000, 0xffffffff} {
		g.ok(g.receive(peerLink, data(a, 255, "x")))
		g.ok(g.send(a, []byte("x")))
	}
	g.came("no row")
	g.went("no row")
}

// TestN6HowOften: what has arrived need not go on; what may go on once or less often does not.
func TestN6HowOften(t *testing.T) {
	g := ready(t)
	for times := range 256 {
		g.ok(g.receive(peerLink, data(0x0a05ffff, times, "x")))
		g.came("here", `10.5.255.255 "x"`)
	}
	for _, times := range []int{0, 1} {
		g.ok(g.receive(peerLink, data(90, times, "x")))
		g.went("too old")
	}
	for times, want := range map[int]string{2: "1", 3: "2", 128: "127", 255: "254"} {
		g.ok(g.receive(peerLink, data(90, times, "x")))
		g.went("it goes on", "1 data 0.0.0.90 "+want+` "x"`)
	}
	// It may go back to where it came from.
	g.ok(g.receive(bothLink, data(90, 9, "x")))
	g.went("back", `1 data 0.0.0.90 8 "x"`)
}

// TestN6Place: of several links the one at the place of the address modulo how many there are.
func TestN6Place(t *testing.T) {
	g := ready(t, func(c *api.RouterConfig) {
		c.Fixed = append(c.Fixed, api.Fixed{Prefix: pre(0x80000000, 1), Links: []int{portLink, bothLink, peerLink}}, api.Fixed{Prefix: twelve, Links: []int{bothLink, lastLink}})
	})
	for _, a := range []uint32{0x80000000, 0x80000001, 0x80000002, 0xfffffffe, 0xffffffff, 0x0c000000, 0x0c000001} {
		g.ok(g.receive(peerLink, data(a, 2, "")))
	}
	g.went("all", `7 data 128.0.0.0 1 ""`, `0 data 128.0.0.1 1 ""`, `1 data 128.0.0.2 1 ""`, `7 data 255.255.255.254 1 ""`, `0 data 255.255.255.255 1 ""`, `1 data 12.0.0.0 1 ""`, `8 data 12.0.0.1 1 ""`)
}

// TestN6NotUp: over an interface that is down, or that there is not, nothing goes, and no other is taken.
func TestN6NotUp(t *testing.T) {
	g := ready(t, func(c *api.RouterConfig) {
		c.Fixed = append(c.Fixed, api.Fixed{Prefix: twelve, Links: []int{bothLink, peerLink, noLink}})
	})
	g.ok(g.down(bothLink))
	g.take()
	for a := range uint32(6) {
		g.ok(g.send(0x0c000000+a, nil))
	}
	g.went("all", `7 data 12.0.0.1 31 ""`, `7 data 12.0.0.4 31 ""`)
	g.came("all")
}

// TestN6Turns: data goes as the rows are just then.
func TestN6Turns(t *testing.T) {
	g := ready(t)
	try := func(what string, want ...string) {
		t.Helper()
		g.take()
		g.ok(g.send(0x0b000001, nil))
		g.went(what, want...)
	}
	try("nobody")
	g.says(0, have(0, []int{6}, eleven))
	try("the first", `1 data 11.0.0.1 31 ""`)
	g.says(1, have(1, nil, eleven))
	try("a shorter one", `7 data 11.0.0.1 31 ""`)
	g.says(2, have(2, []int{6, 7}, pre(0x0b000000, 31)))
	try("a longer prefix", `8 data 11.0.0.1 31 ""`)
	g.says(2, lost(pre(0x0b000000, 31)))
	try("that is lost", `7 data 11.0.0.1 31 ""`)
	g.ok(g.down(peerLink))
	try("and the shorter one", `1 data 11.0.0.1 31 ""`)
	g.says(0, lost(eleven))
	try("and the first")
}

func TestN7Send(t *testing.T) {
	g := ready(t)
	most := strings.Repeat("z", api.MaxData)
	g.refuses("much", api.ErrLong, func() api.Errno { return g.send(5, []byte(most+"z")) })
	g.refuses("much, to nowhere", api.ErrLong, func() api.Errno { return g.send(0, make([]byte, 10*api.MaxData)) })
	g.ok(g.send(5, []byte(most)))
	g.ok(g.send(80, []byte(most)))
	g.ok(g.send(80, nil))
	g.came("here", `0.0.0.5 "`+most+`"`)
	g.went("there", `7 data 0.0.0.80 31 "`+most+`"`, `7 data 0.0.0.80 31 ""`)
}
