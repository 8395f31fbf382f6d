package router_test

import (
	"bytes"
	"fmt"
	"slices"
	"testing"

	"wayfinder/api"
	"wayfinder/lsr"
	"wayfinder/pfx"
	"wayfinder/router"
	"wayfinder/session"
	"wayfinder/speaker"
	"wayfinder/table"
)

// model does with the layers what the document says, in the plainest way: what is still to be done stands in a list, of which the first is done next, and what is to be done at once is put ahead of it. Data goes by the table's rows.
type model struct {
	c     api.RouterConfig
	now   int
	isUp  map[int]bool
	lsr   *lsr.Router
	talks []*session.Session
	says  *speaker.Speaker
	table *table.Table
	sent  []api.Sent
	come  []api.Arrived
	to    []func()
}

func newModel(c api.RouterConfig) (*model, api.Errno) {
	m := &model{c: c, isUp: map[int]bool{}, table: table.New()}
	var e api.Errno
	if m.lsr, e = lsr.New(c.Lsr); e != api.OK {
		return nil, e
	}
	if m.says, e = speaker.New(c.Speaker); e != api.OK {
		return nil, e
	}
	if len(c.Peers) != len(c.Speaker.Peers) {
		return nil, api.ErrForm
	}
	for i, p := range c.Peers {
		if p.Link != int(uint16(p.Link)) {
			return nil, api.ErrRange
		}
		for _, q := range c.Peers[:i] {
			if q.Link == p.Link {
				return nil, api.ErrTwice
			}
		}
		s, e := session.New(api.SessionConfig{Domain: c.Speaker.Domain, Id: c.Speaker.Id, Hold: p.Hold, Peer: c.Speaker.Peers[i].Domain})
		if e != api.OK {
			return nil, e
		}
		m.talks = append(m.talks, s)
	}
	if _, e = m.table.Fixed(c.Fixed); e != api.OK {
		return nil, e
	}
	if _, e = m.says.Own(c.Own); e != api.OK {
		return nil, e
	}
	m.turn()
	m.do()
	return m, api.OK
}

// do does all that is to be done.
func (m *model) do() {
	for len(m.to) > 0 {
		first := m.to[0]
		m.to = m.to[1:]
		first()
	}
}

// atOnce puts steps ahead of all that is to be done.
func (m *model) atOnce(steps ...func()) { m.to = append(steps, m.to...) }

func (m *model) turn() {
	m.atOnce(
		func() {
			for _, s := range m.lsr.Take() {
				m.send(s.Link, append([]byte{1}, s.Bytes...))
			}
		},
		func() { m.table.Ways(m.lsr.Ways()) },
		func() {
			told, _ := m.says.Costs(m.table.Costs(m.says.Nexts()))
			m.tell(told)
		},
		func() { m.table.Offers(m.says.Best()) },
	)
}

func (m *model) tell(told []api.Told) {
	var steps []func()
	for _, t := range told {
		steps = append(steps, func() {
			out, _ := m.talks[t.Peer].Tell(t.Message, m.now)
			m.handle(t.Peer, out)
		})
	}
	m.atOnce(steps...)
}

func (m *model) handle(n int, out api.SessionOut) {
	if len(out.Bytes) > 0 {
		m.send(m.c.Peers[n].Link, append([]byte{2}, out.Bytes...))
	}
	var steps []func()
	for _, event := range out.Events {
		steps = append(steps, func() { m.happens(n, event) })
	}
	m.atOnce(steps...)
}

func (m *model) happens(n int, event api.SessionEvent) {
	var told []api.Told
	switch event.Kind {
	case api.EventUp:
		told, _ = m.says.Up(n)
	case api.EventDown:
		told, _ = m.says.Down(n)
	case api.EventTold:
		l, e := m.says.Hear(n, event.Message)
		if e != api.OK {
			m.handle(n, m.talks[n].Stop(m.now))
			return
		}
		told = l
	}
	m.tell(told)
}

func (m *model) send(link int, frame []byte) {
	if m.isUp[link] {
		m.sent = append(m.sent, api.Sent{Link: link, Bytes: frame})
	}
}

func (m *model) isPort(link int) bool {
	for _, p := range m.c.Lsr.Ports {
		if p.Link == link {
			return true
		}
	}
	return false
}

// peer gives the peer of a link; -1: none.
func (m *model) peer(link int) int {
	for i, p := range m.c.Peers {
		if p.Link == link {
			return i
		}
	}
	return -1
}

func (m *model) is(link int, up bool) api.Errno {
	if !m.isPort(link) && m.peer(link) < 0 {
		return api.ErrNone
	}
	if m.isUp[link] != up {
		return api.ErrState
	}
	return api.OK
}

func (m *model) Up(link int) api.Errno {
	if e := m.is(link, false); e != api.OK {
		return e
	}
	m.isUp[link] = true
	m.lsr.Up(link)
	m.turn()
	if n := m.peer(link); n >= 0 {
		m.handle(n, m.talks[n].Start(m.now))
	}
	m.do()
	return api.OK
}

func (m *model) Down(link int) api.Errno {
	if e := m.is(link, true); e != api.OK {
		return e
	}
	m.isUp[link] = false
	m.lsr.Down(link)
	m.turn()
	if n := m.peer(link); n >= 0 {
		m.handle(n, m.talks[n].Stop(m.now))
	}
	m.do()
	return api.OK
}

func (m *model) Receive(link int, f []byte) api.Errno {
	if e := m.is(link, true); e != api.OK {
		return e
	}
	n := m.peer(link)
	switch {
	case len(f) == 0:
		return api.ErrForm
	case f[0] == 1 && m.isPort(link):
		if e := m.lsr.Hear(link, f[1:]); e != api.OK {
			return e
		}
		m.turn()
	case f[0] == 2 && n >= 0:
		m.turn()
		m.handle(n, m.talks[n].Receive(f[1:], m.now))
	case f[0] != 3:
		return api.ErrKind
	case len(f) < 6 || len(f) > 518:
		return api.ErrForm
	default:
		m.forward(uint32(f[1])<<24|uint32(f[2])<<16|uint32(f[3])<<8|uint32(f[4]), int(f[5]), f[6:])
	}
	m.do()
	return api.OK
}

func (m *model) Send(to uint32, b []byte) api.Errno {
	if len(b) > 512 {
		return api.ErrLong
	}
	m.forward(to, 32, b)
	return api.OK
}

func (m *model) forward(to uint32, times int, b []byte) {
	var row *api.Row
	for _, r := range m.table.Rows() {
		if pfx.Has(r.Prefix, to) && (row == nil || r.Prefix.Len > row.Prefix.Len) {
			row = &r
		}
	}
	switch {
	case row == nil:
	case len(row.Links) == 0:
		m.come = append(m.come, api.Arrived{To: to, Bytes: append([]byte(nil), b...)})
	case times >= 2:
		f := []byte{3, byte(to >> 24), byte(to >> 16), byte(to >> 8), byte(to), byte(times - 1)}
		m.send(row.Links[uint64(to)%uint64(len(row.Links))], append(f, b...))
	}
}

func (m *model) Tick() {
	m.now++
	m.lsr.Tick()
	var steps []func()
	for n, s := range m.talks {
		steps = append(steps, func() { m.handle(n, s.Tick(m.now)) })
	}
	m.turn()
	m.atOnce(steps...)
	m.do()
}

func (m *model) state(n int) int {
	if n < 0 || n >= len(m.talks) {
		return -1
	}
	return m.talks[n].State()
}

// pair is a router and what it must be. Both are asked the same, and must answer the same.
type pair struct {
	t    *testing.T
	is   *router.Router
	must *model
	sent []api.Sent // what the router has sent, and a test has not taken yet
	come []api.Arrived
}

// begin answers nil, if the config is refused.
func begin(t *testing.T, c api.RouterConfig) *pair {
	t.Helper()
	r, e := router.New(c)
	m, want := newModel(c)
	if e != want || (r == nil) != (want != api.OK) {
		t.Fatalf("N1: New answers %v, %v, and must answer %v: %+v", r != nil, e, want, c)
	}
	if r == nil {
		return nil
	}
	p := &pair{t: t, is: r, must: m}
	p.check("New", api.OK, api.OK)
	return p
}

// show makes no difference between lists that are empty and that are not there.
func show(a any) string { return fmt.Sprintf("%+v", a) }

// check holds all that the router answers behind a call to what it must.
func (p *pair) check(what string, got, want api.Errno) api.Errno {
	p.t.Helper()
	if got != want {
		p.t.Fatalf("%s answers %v, and must answer %v", what, got, want)
	}
	for n := -1; n <= len(p.must.talks); n++ {
		if got, want := p.is.State(n), p.must.state(n); got != want {
			p.t.Fatalf("%s: session %d stands at %d, must be %d", what, n, got, want)
		}
	}
	sent, come := p.is.Take(), p.is.Come()
	same(p.t, what+": sent", sent, p.must.sent, func(a, b api.Sent) bool { return a.Link == b.Link && bytes.Equal(a.Bytes, b.Bytes) })
	same(p.t, what+": come", come, p.must.come, func(a, b api.Arrived) bool { return a.To == b.To && bytes.Equal(a.Bytes, b.Bytes) })
	same(p.t, what+": rows", p.is.Rows(), p.must.table.Rows(), sameRow)
	p.must.sent, p.must.come = nil, nil
	p.sent, p.come = append(p.sent, sent...), append(p.come, come...)
	return got
}

func sameRow(a, b api.Row) bool {
	return a.Prefix == b.Prefix && a.Kind == b.Kind && a.Cost == b.Cost && slices.Equal(a.Links, b.Links)
}

func same[T any](t *testing.T, what string, got, want []T, is func(a, b T) bool) {
	t.Helper()
	if !slices.EqualFunc(got, want, is) {
		t.Fatalf("%s\n%+v\nmust be\n%+v", what, got, want)
	}
}

func (p *pair) up(link int) api.Errno {
	p.t.Helper()
	return p.check("Up", p.is.Up(link), p.must.Up(link))
}

func (p *pair) down(link int) api.Errno {
	p.t.Helper()
	return p.check("Down", p.is.Down(link), p.must.Down(link))
}

func (p *pair) receive(link int, frame []byte) api.Errno {
	p.t.Helper()
	return p.check("Receive", p.is.Receive(link, frame), p.must.Receive(link, frame))
}

func (p *pair) send(to uint32, b []byte) api.Errno {
	p.t.Helper()
	return p.check("Send", p.is.Send(to, b), p.must.Send(to, b))
}

func (p *pair) tick() {
	p.t.Helper()
	p.is.Tick()
	p.must.Tick()
	p.check("Tick", api.OK, api.OK)
}

// take gives what was sent since it was asked last.
func (p *pair) take() []api.Sent {
	out := p.sent
	p.sent = nil
	return out
}

// arrived gives what has come since it was asked last.
func (p *pair) arrived() []api.Arrived {
	out := p.come
	p.come = nil
	return out
}
