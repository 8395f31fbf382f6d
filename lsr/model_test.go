package lsr_test

import (
	"bytes"
	"fmt"
	"math/rand"
	"slices"
	"testing"

	"wayfinder/api"
	"wayfinder/area"
	"wayfinder/lsa"
	"wayfinder/lsr"
	"wayfinder/pfx"
)

// model is a second writing-out of the chapter, without regard to time and room: what is kept lies in no order, and what is owed in one list for all ports.
type model struct {
	id, now int
	sides   []side // by rising link
	areas   []int  // by rising number
	stubs   []api.LsrStub
	exts    []api.LsrExt
	kept    []api.Lsa
	debts   []debt
	out     []api.Sent
	hellos  []int          // links over which a hello is to go
	acks    []answer       // what is to be acknowledged
	counts  map[string]int // how often what is worth a look has happened
}

type side struct {
	given     api.LsrPort
	up, two   bool
	id, heard int
}

type debt struct {
	link, due int
	of        api.Lsa
	told      bool
}

type answer struct {
	link int
	x    api.Lsa
}

func sameKey(x, y api.Lsa) bool {
	return x.Area == y.Area && x.Kind == y.Kind && x.Origin == y.Origin && x.Prefix == y.Prefix
}

func newModel(c api.LsrConfig) *model {
	m := &model{id: c.ID, stubs: c.Stubs, counts: map[string]int{}}
	for n := range 65536 {
		for _, p := range c.Ports {
			if p.Link == n {
				m.sides = append(m.sides, side{given: p})
			}
		}
		if slices.ContainsFunc(c.Ports, func(p api.LsrPort) bool { return p.Area == n }) {
			m.areas = append(m.areas, n)
		}
	}
	m.end()
	return m
}

func (m *model) side(link int) *side {
	for i := range m.sides {
		if m.sides[i].given.Link == link {
			return &m.sides[i]
		}
	}
	return nil
}

func (m *model) find(x api.Lsa) int {
	return slices.IndexFunc(m.kept, func(y api.Lsa) bool { return sameKey(x, y) })
}

func (m *model) owe(link int, x api.Lsa) {
	m.settle(link, x)
	m.debts = append(m.debts, debt{link: link, due: m.now, of: x})
}

func (m *model) settle(link int, x api.Lsa) {
	m.debts = slices.DeleteFunc(m.debts, func(d debt) bool { return d.link == link && sameKey(d.of, x) })
}

func (m *model) settleAll(link int) {
	m.debts = slices.DeleteFunc(m.debts, func(d debt) bool { return d.link == link })
}

func scope(s *side, x api.Lsa) bool {
	return x.Area == s.given.Area || x.Kind == api.LsaExternal
}

func (m *model) oweAll(x api.Lsa, but int) {
	for i := range m.sides {
		if s := &m.sides[i]; s.two && s.given.Link != but && scope(s, x) {
			m.owe(s.given.Link, x)
		}
	}
}

func (m *model) keep(x api.Lsa) {
	if i := m.find(x); i >= 0 {
		m.kept = slices.Delete(m.kept, i, i+1)
	}
	m.kept = append(m.kept, x)
}

func (m *model) lose(s *side) {
	s.id, s.two = 0, false
	m.settleAll(s.given.Link)
}

func (m *model) up(link int) api.Errno {
	s := m.side(link)
	if s == nil {
		return api.ErrNone
	}
	if s.up {
		return api.ErrState
	}
	s.up = true
	m.hellos = append(m.hellos, link)
	m.end()
	return api.OK
}

func (m *model) down(link int) api.Errno {
	s := m.side(link)
	if s == nil {
		return api.ErrNone
	}
	if !s.up {
		return api.ErrState
	}
	m.lose(s)
	s.up = false
	m.end()
	return api.OK
}

func (m *model) redistribute(l []api.LsrExt) {
	m.exts = l
	m.end()
}

func (m *model) tick() {
	m.now++
	for i := range m.sides {
		s := &m.sides[i]
		if s.id > 0 && m.now >= s.heard+10 {
			m.counts["not heard for long"]++
			m.lose(s)
		}
		if s.up && m.now%3 == 0 {
			m.hellos = append(m.hellos, s.given.Link)
		}
	}
	for i := range m.kept {
		if m.kept[i].Age < 120 {
			m.kept[i].Age++
			if m.kept[i].Age == 120 {
				m.counts["grown old"]++
				m.oweAll(m.kept[i], -1)
			}
		}
	}
	m.end()
}

func (m *model) hear(link int, b []byte) api.Errno {
	s := m.side(link)
	if s == nil {
		return api.ErrNone
	}
	if !s.up {
		return api.ErrState
	}
	p, e := lsa.Decode(b)
	if e != api.OK {
		return e
	}
	counts := p.Area == s.given.Area && p.From == s.id && s.two
	switch {
	case p.Kind == api.PktHello && p.Area == s.given.Area && p.From != m.id:
		m.hearHello(s, p)
	case p.Kind == api.PktUpdate && counts:
		for _, x := range p.Lsas {
			if scope(s, x) {
				m.hearUpdate(s, x)
			}
		}
	case p.Kind == api.PktAck && counts:
		for _, x := range p.Lsas {
			if i := m.find(x); i >= 0 && lsa.Newer(x, m.kept[i]) == 0 {
				m.counts["acknowledged"]++
				m.settle(link, x)
			}
		}
	}
	m.end()
	return api.OK
}

func (m *model) hearHello(s *side, p api.Packet) {
	if s.id != 0 && s.id != p.From {
		m.counts["another neighbour"]++
		m.lose(s)
	}
	was, two := s.id, s.two
	s.id, s.heard, s.two = p.From, m.now, p.Seen == m.id
	if was == 0 || two != s.two {
		m.hellos = append(m.hellos, s.given.Link)
	}
	if !two && s.two {
		for _, x := range m.kept {
			if scope(s, x) {
				m.owe(s.given.Link, x)
			}
		}
	}
	if two && !s.two {
		m.counts["no longer two-way"]++
		m.settleAll(s.given.Link)
	}
}

func (m *model) hearUpdate(s *side, x api.Lsa) {
	link := s.given.Link
	i := m.find(x)
	if i < 0 && x.Age == 120 {
		m.counts["nothing known of what ends"]++
		m.acks = append(m.acks, answer{link, x})
		return
	}
	if i < 0 || lsa.Newer(x, m.kept[i]) > 0 {
		m.counts["newer"]++
		m.keep(x)
		m.settle(link, x)
		m.oweAll(x, link)
		m.acks = append(m.acks, answer{link, x})
		return
	}
	if lsa.Newer(x, m.kept[i]) == 0 {
		m.counts["the same"]++
		m.settle(link, x)
		m.acks = append(m.acks, answer{link, x})
		return
	}
	m.counts["older"]++
	m.owe(link, x)
}

// end is G7, G8 and G9.
func (m *model) end() {
	var wanted []api.Lsa
	for _, n := range m.areas {
		wanted = append(wanted, m.wantRouter(n))
	}
	for _, x := range wanted {
		m.want(x)
	}
	for _, s := range area.Sums(m.base(), m.id) {
		x := api.Lsa{Kind: api.LsaSummary, Area: s.Area, Origin: m.id, Prefix: s.Prefix, Cost: s.Cost}
		wanted = append(wanted, x)
		m.want(x)
	}
	for _, o := range m.exts {
		x := api.Lsa{Kind: api.LsaExternal, Area: 65535, Origin: m.id, Prefix: o.Prefix, Cost: o.Cost, Tag: o.Tag}
		wanted = append(wanted, x)
		m.want(x)
	}
	for i, y := range m.kept {
		if y.Origin == m.id && y.Age < 120 && !slices.ContainsFunc(wanted, func(x api.Lsa) bool { return sameKey(x, y) }) {
			m.counts["not wanted"]++
			m.kept[i].Age = 120
			m.oweAll(m.kept[i], -1)
		}
	}
	m.kept = slices.DeleteFunc(m.kept, func(x api.Lsa) bool {
		return x.Age == 120 && !slices.ContainsFunc(m.debts, func(d debt) bool { return sameKey(d.of, x) })
	})
	for _, s := range m.sides {
		if s.up {
			m.sendOver(s)
		}
	}
	m.hellos, m.acks = nil, nil
}

func (m *model) wantRouter(n int) api.Lsa {
	x := api.Lsa{Kind: api.LsaRouter, Area: n, Origin: m.id, Stubs: []api.LsStub{{Prefix: at(uint32(m.id), 32)}}}
	for _, s := range m.sides {
		if s.given.Area == n && s.up && s.two {
			x.Links = append(x.Links, api.LsLink{To: s.id, Cost: s.given.Cost, Link: s.given.Link})
		}
	}
	for _, s := range m.stubs {
		if s.Area == n {
			x.Stubs = append(x.Stubs, api.LsStub{Prefix: s.Prefix, Cost: s.Cost})
		}
	}
	slices.SortFunc(x.Stubs, func(a, b api.LsStub) int { return pfx.Order(a.Prefix, b.Prefix) })
	return x
}

func (m *model) want(x api.Lsa) {
	i := m.find(x)
	if i < 0 {
		x.Seq = 1
		m.keep(x)
		m.oweAll(x, -1)
		return
	}
	y := m.kept[i]
	body := func(x api.Lsa) string { return fmt.Sprint(x.Cost, x.Tag, x.Links, x.Stubs) }
	if y.Age < 40 && body(x) == body(y) {
		return
	}
	if y.Seq < 1<<30 {
		m.counts["renewed"]++
		x.Seq = y.Seq + 1
		m.keep(x)
		m.oweAll(x, -1)
		return
	}
	if y.Age < 120 {
		m.counts["no greater number"]++
		m.kept[i].Age = 120
		m.oweAll(y, -1)
	}
}

func (m *model) sendOver(s side) {
	link := s.given.Link
	send := func(p api.Packet) {
		p.From, p.Area = m.id, s.given.Area
		b, _ := lsa.Encode(p)
		m.out = append(m.out, api.Sent{Link: link, Bytes: b})
	}
	if slices.Contains(m.hellos, link) {
		send(api.Packet{Kind: api.PktHello, Seen: s.id})
	}
	for _, a := range m.acks {
		if a.link == link {
			send(api.Packet{Kind: api.PktAck, Lsas: []api.Lsa{a.x}})
		}
	}
	for _, x := range m.list() {
		for i, d := range m.debts {
			if d.link == link && sameKey(d.of, x) && d.due <= m.now {
				if d.told {
					m.counts["told again"]++
				}
				m.debts[i].due, m.debts[i].told = m.now+3, true
				x.Age = min(120, x.Age+1)
				send(api.Packet{Kind: api.PktUpdate, Lsas: []api.Lsa{x}})
			}
		}
	}
}

func (m *model) list() []api.Lsa {
	out := slices.Clone(m.kept)
	slices.SortFunc(out, lsa.Order)
	return out
}

func (m *model) near() []api.Near {
	var out []api.Near
	for _, s := range m.sides {
		if s.up {
			out = append(out, api.Near{Link: s.given.Link, ID: s.id, Two: s.two})
		}
	}
	return out
}

func (m *model) base() api.Base {
	var b api.Base
	for _, n := range append(slices.Clone(m.areas), 65535) {
		a := api.AreaBase{Area: n}
		for _, x := range m.list() {
			if x.Age == 120 || x.Area != n {
				continue
			}
			for _, l := range x.Links {
				a.Edges = append(a.Edges, api.Edge{From: x.Origin, To: l.To, Cost: l.Cost, Link: l.Link})
			}
			for _, s := range x.Stubs {
				a.Stubs = append(a.Stubs, api.Stub{Node: x.Origin, Prefix: s.Prefix, Cost: s.Cost})
			}
			if x.Kind == api.LsaSummary {
				a.Sums = append(a.Sums, api.Stub{Node: x.Origin, Prefix: x.Prefix, Cost: x.Cost})
			}
			if x.Kind == api.LsaExternal {
				b.Exts = append(b.Exts, api.Ext{Node: x.Origin, Prefix: x.Prefix, Cost: x.Cost, Tag: x.Tag})
			}
		}
		if n < 65535 {
			b.Areas = append(b.Areas, a)
		}
	}
	return b
}

// compare holds all that a router answers against the model.
func compare(t *testing.T, r *lsr.Router, m *model) {
	t.Helper()
	got, want := r.Take(), m.out
	m.out = nil
	if !slices.EqualFunc(got, want, func(a, b api.Sent) bool { return a.Link == b.Link && bytes.Equal(a.Bytes, b.Bytes) }) {
		t.Fatalf("at %d went out\n%s\nmust be\n%s", m.now, tellAll(got), tellAll(want))
	}
	for _, x := range []struct {
		what      string
		got, want any
	}{{"Near", r.Near(), m.near()}, {"List", r.List(), m.list()}, {"Base", r.Base(), m.base()}, {"Ways", r.Ways(), area.Ways(m.base(), m.id)}} {
		if fmt.Sprint(x.got) != fmt.Sprint(x.want) {
			t.Fatalf("at %d %s:\n%v\nmust be\n%v", m.now, x.what, x.got, x.want)
		}
	}
}

func tellAll(l []api.Sent) string {
	s := ""
	for _, x := range l {
		p, e := lsa.Decode(x.Bytes)
		s += fmt.Sprintln(x.Link, p, e)
	}
	return s
}

// play draws what happens to a router, and remembers what went out.
type play struct {
	*rand.Rand
	r      *lsr.Router
	m      *model
	before []api.Sent
}

func (d *play) one(of ...int) int { return of[d.Intn(len(of))] }

func (d *play) drawPrefix() api.Prefix {
	return []api.Prefix{six, ten, eleven, at(0, 0), at(0x0a400000, 10), at(1, 32), at(3, 32)}[d.Intn(7)]
}

// announcement draws one that is near to what is kept, if there is something, or any.
func (d *play) announcement() api.Lsa {
	x := ofRouter(d.one(0, 5), 1+d.Intn(4), d.one(1, 2, 3, 1<<30), d.one(0, 1, 38, 39, 40, 117, 118, 119, 120))
	if d.Intn(3) == 0 {
		x.Links = []api.LsLink{{To: 1 + x.Origin%4, Cost: 1 + d.Intn(3), Link: d.Intn(3)}}
	}
	if d.Intn(3) == 0 {
		x = ofPrefix(x.Area, x.Origin, d.drawPrefix(), x.Seq, x.Age, d.Intn(3))
	} else if d.Intn(3) == 0 {
		x = ofOuter(x.Origin, d.drawPrefix(), x.Seq, x.Age, d.Intn(3), d.Intn(3))
	}
	if l := d.m.kept; len(l) > 0 && d.Intn(4) > 0 {
		y := l[d.Intn(len(l))]
		if d.Intn(2) == 0 {
			x = y
		} else if x.Kind == y.Kind && x.Kind != api.LsaRouter {
			x.Area, x.Origin, x.Prefix = y.Area, y.Origin, y.Prefix
		}
		x.Seq = min(max(y.Seq+d.one(-1, 0, 0, 0, 1, 1, 1<<30), 1), 1<<30)
		x.Age = d.one(y.Age, y.Age, 0, 120)
	}
	return x
}

func (d *play) packet(link int) api.Packet {
	near := 2
	if s := d.m.side(link); s != nil && s.id != 0 && d.Intn(20) > 0 {
		near = s.id
	}
	areas := map[int]int{0: 0, 3: 5, 7: 0, 9: 9}
	p := api.Packet{Kind: d.one(1, 2, 2, 3), From: near, Area: areas[link]}
	if d.Intn(30) == 0 {
		p.Area = d.one(0, 5, 9)
	}
	if d.Intn(20) == 0 {
		p.From = 1 + d.Intn(4)
	}
	if p.Kind == api.PktHello {
		p.Seen = d.one(1, 1, 1, 1, 1, 1, 0, 4)
		return p
	}
	for range 1 + d.Intn(4) {
		p.Lsas = append(p.Lsas, d.announcement())
	}
	return p
}

// step lets one thing happen to both, and answers what each said.
func (d *play) step() (api.Errno, api.Errno) {
	link := d.one(0, 0, 0, 3, 3, 7, 7, 9, 8)
	switch n := d.Intn(40); {
	case n < 2:
		return d.r.Up(link), d.m.up(link)
	case n == 2 && d.Intn(3) == 0:
		return d.r.Down(link), d.m.down(link)
	case n == 3:
		var l []api.LsrExt
		for _, p := range []api.Prefix{six, ten, at(0, 0), at(3, 32)} {
			if d.Intn(2) == 0 {
				l = append(l, outer(p, d.Intn(2), d.Intn(2)))
			}
		}
		d.m.redistribute(slices.Clone(l))
		return d.r.Redistribute(l), api.OK
	case n < 10:
		d.r.Tick()
		d.m.tick()
		return api.OK, api.OK
	case n < 18 && len(d.before) > 0:
		return d.echo()
	}
	b, e := lsa.Encode(d.packet(link))
	if e == api.OK && d.Intn(50) == 0 {
		b[d.Intn(len(b))] ^= 1
	}
	return d.r.Hear(link, b), d.m.hear(link, b)
}

// echo lets a neighbour acknowledge something that was told lately.
func (d *play) echo() (api.Errno, api.Errno) {
	s := d.before[d.Intn(len(d.before))]
	p, _ := lsa.Decode(s.Bytes)
	if side := d.m.side(s.Link); p.Kind == api.PktUpdate && side.two {
		p.Kind, p.From = api.PktAck, side.id
	}
	b, _ := lsa.Encode(p)
	return d.r.Hear(s.Link, b), d.m.hear(s.Link, b)
}

func TestG2ToG10AgainstModel(t *testing.T) {
	counts := map[string]int{}
	for seed := range int64(90) {
		c := api.LsrConfig{ID: 1, Ports: []api.LsrPort{port(7, 0, 2), port(0, 0, 3), port(3, 5, 1), port(9, 9, 4)},
			Stubs: []api.LsrStub{stub(5, ten, 3), stub(0, at(0, 2), 9), stub(0, ten, 4)}}
		if seed%3 == 0 {
			c.Ports = c.Ports[:2]
			c.Stubs = c.Stubs[1:]
		}
		r, _ := lsr.New(c)
		d := play{Rand: rand.New(rand.NewSource(seed)), r: r, m: newModel(c)}
		for range 250 {
			if got, want := d.step(); got != want {
				t.Fatalf("at %d: %v, must be %v", d.m.now, got, want)
			}
			if len(d.m.out) > 0 {
				d.before = slices.Clone(d.m.out)
			}
			compare(t, d.r, d.m)
		}
		for what, n := range d.m.counts {
			counts[what] += n
		}
	}
	for _, what := range []string{"not heard for long", "grown old", "acknowledged", "another neighbour", "no longer two-way", "nothing known of what ends",
		"newer", "the same", "older", "not wanted", "renewed", "no greater number", "told again"} {
		if counts[what] < 20 {
			t.Errorf("%s: only %d times", what, counts[what])
		}
	}
}
