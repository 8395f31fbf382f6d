package speaker_test

import (
	"math/rand"
	"slices"
	"testing"

	"wayfinder/api"
	"wayfinder/choose"
	"wayfinder/policy"
	"wayfinder/pv"
	"wayfinder/speaker"
)

// ledger has what a speaker knows, as it was handed in, and works all out anew from that when it is asked.
type ledger struct {
	config api.SpeakerConfig
	code   *policy.Code
	up     [peers]bool
	tells  [peers]map[api.Prefix]api.Route
	own    []api.Route
	costs  []api.NextCost
}

func newLedger(c api.SpeakerConfig) *ledger {
	l := &ledger{config: c}
	l.code, _ = policy.Compile(c.Policies)
	for n := range peers {
		l.tells[n] = map[api.Prefix]api.Route{}
	}
	return l
}

func (l *ledger) isInner(n int) bool { return n >= 0 && l.config.Peers[n].Domain == l.config.Domain }

func (l *ledger) isClient(n int) bool { return l.config.Peers[n].Client }

// run is a policy's verdict; nil is reject.
func (l *ledger) run(name string, r *api.Route) *api.Route {
	if r == nil || name == "" {
		return r
	}
	out, how, e := l.code.Run(name, *r, l.config.Domain)
	if e != api.OK {
		panic(e)
	}
	if how == api.Reject {
		return nil
	}
	return &out
}

// offer is what has come in of what a peer tells; nil: it was refused.
func (l *ledger) offer(n int, at api.Prefix, r api.Route) *api.Offer {
	c, p := l.config, l.config.Peers[n]
	r.Prefix = at
	switch {
	case slices.Contains(r.Path, c.Domain):
		return nil
	case l.isInner(n) && r.Author == c.Id:
		return nil
	case l.isInner(n) && c.Cluster != 0 && slices.Contains(r.Clusters, c.Cluster):
		return nil
	case !l.isInner(n) && (len(r.Path) == 0 || r.Path[0] != p.Domain):
		return nil
	}
	if !l.isInner(n) {
		r.Pref, r.Author, r.Clusters = 100, 0, nil
	}
	in := l.run(p.In, &r)
	if in == nil {
		return nil
	}
	o := api.Offer{Route: *in, Peer: n, Inner: l.isInner(n), Cost: -1}
	if o.Route.Author == 0 {
		o.Route.Author = p.Id
	}
	for _, c := range l.costs {
		if c.Next == o.Route.Next {
			o.Cost = c.Cost
		}
	}
	return &o
}

// best gives the best offers by prefix.
func (l *ledger) best() map[api.Prefix]api.Offer {
	all := map[api.Prefix][]api.Offer{}
	for _, r := range l.own {
		r.Next, r.Author = l.config.Addr, l.config.Id
		all[r.Prefix] = append(all[r.Prefix], api.Offer{Route: r, Peer: -1})
	}
	for n := range peers {
		for at, r := range l.tells[n] {
			if o := l.offer(n, at, r); o != nil {
				all[at] = append(all[at], *o)
			}
		}
	}
	out := map[api.Prefix]api.Offer{}
	for at, offers := range all {
		if i := choose.Best(offers); i >= 0 {
			out[at] = offers[i]
		}
	}
	return out
}

// out is what goes out to a peer; nil: nothing.
func (l *ledger) out(n int, o api.Offer) *api.Route {
	c, p, r := l.config, l.config.Peers[n], o.Route
	if o.Peer == n || slices.Contains(r.Marks, api.MarkHere) {
		return nil
	}
	switch to, from := l.isInner(n), l.isInner(o.Peer); {
	case to && from:
		if c.Cluster == 0 || !l.isClient(n) && !l.isClient(o.Peer) {
			return nil
		}
		r.Clusters = slices.Insert(slices.Clone(r.Clusters), 0, c.Cluster)
	case to:
		r.Author, r.Clusters = 0, nil
	default:
		if slices.Contains(r.Marks, api.MarkInside) || slices.Contains(r.Path, p.Domain) {
			return nil
		}
		r = api.Route{Prefix: r.Prefix, Path: slices.Insert(slices.Clone(r.Path), 0, c.Domain), Origin: r.Origin, Next: c.Addr, Marks: r.Marks}
	}
	out := l.run(p.Out, &r)
	if out == nil {
		return nil
	}
	at := out.Prefix
	out.Prefix = api.Prefix{}
	if _, e := pv.Encode(api.PvMessage{Kind: api.PvUpdate, Have: []api.Prefix{at}, Route: *out}); e != api.OK {
		return nil
	}
	return out
}

// books are what each peer has been told, by prefix.
type books [peers]map[api.Prefix]api.Route

// all gives what each peer that is up must have been told.
func (l *ledger) all() books {
	var b books
	for n := range peers {
		b[n] = map[api.Prefix]api.Route{}
	}
	for at, o := range l.best() {
		for n := range peers {
			if l.up[n] {
				if r := l.out(n, o); r != nil {
					b[n][at] = *r
				}
			}
		}
	}
	return b
}

func sorted[V any](m map[api.Prefix]V) []api.Prefix {
	var out []api.Prefix
	for at := range m {
		out = append(out, at)
	}
	slices.SortFunc(out, func(p, q api.Prefix) int {
		if p.Addr != q.Addr {
			return int(int64(p.Addr) - int64(q.Addr))
		}
		return p.Len - q.Len
	})
	return out
}

// news gives what a call must tell that leads from some books to others.
func (l *ledger) news(before, after books) []api.Told {
	var out []api.Told
	for n := range peers {
		if !l.up[n] {
			continue
		}
		both := map[api.Prefix]int{}
		for _, b := range []books{before, after} {
			for at := range b[n] {
				both[at]++
			}
		}
		for _, at := range sorted(both) {
			old, was := before[n][at]
			r, is := after[n][at]
			if is && (!was || show(old) != show(r)) {
				out = append(out, have(n, at, r))
			}
			if was && !is {
				out = append(out, lost(n, at))
			}
		}
	}
	return out
}

// bests and nexts give what Best and Nexts must answer.
func (l *ledger) bests() []api.Offer {
	var out []api.Offer
	best := l.best()
	for _, at := range sorted(best) {
		out = append(out, best[at])
	}
	return out
}

func (l *ledger) nexts() []uint32 {
	var out []uint32
	for n := range peers {
		for _, r := range l.tells[n] {
			if !slices.Contains(out, r.Next) {
				out = append(out, r.Next)
			}
		}
	}
	slices.Sort(out)
	return out
}

// hear is what Hear does with a ledger.
func (l *ledger) hear(n int, m api.PvMessage) api.Errno {
	switch {
	case n < 0 || n >= peers:
		return api.ErrNone
	case !l.up[n]:
		return api.ErrState
	case m.Kind != api.PvUpdate:
		return api.ErrKind
	}
	if _, e := pv.Encode(m); e != api.OK {
		return e
	}
	for _, at := range m.Lost {
		delete(l.tells[n], at)
	}
	for _, at := range m.Have {
		l.tells[n][at] = m.Route
	}
	return api.OK
}

func (l *ledger) turn(n int, up bool) api.Errno {
	switch {
	case n < 0 || n >= peers:
		return api.ErrNone
	case l.up[n] == up:
		return api.ErrState
	}
	l.up[n] = up
	l.tells[n] = map[api.Prefix]api.Route{}
	return api.OK
}

// drawing draws what a speaker is handed.
type drawing struct{ *rand.Rand }

func one[T any](d drawing, of ...T) T { return of[d.Intn(len(of))] }

func (d drawing) config() api.SpeakerConfig {
	c := usual()
	if d.Intn(4) == 0 {
		c.Cluster = 0
	}
	for i := range c.Peers {
		p := &c.Peers[i]
		p.Domain, p.Id = one(d, 1, 1, 2, 3), 7+d.Intn(4)
		p.Client = p.Domain == 1 && c.Cluster != 0 && d.Intn(3) == 0
		p.In = one(d, "", "", "", "raise", "turn", "tens", "twice", "hide", "usual")
		p.Out = one(d, "", "", "", "raise", "turn", "tens", "twice", "inside", "shut")
	}
	return c
}

func (d drawing) numbers(most int, of ...int) []int {
	var out []int
	for range d.Intn(most + 1) {
		out = append(out, one(d, of...))
	}
	return out
}

// route draws a route that a peer of some domain tells.
func (d drawing) route(domain int) api.Route {
	r := api.Route{Path: d.numbers(2, 4, 4, 5, 5, 5, 3, 2, 1), Origin: one(d, 0, 0, 0, 1, 2), Next: one[uint32](d, near, near, far, never)}
	if domain != 1 && d.Intn(12) > 0 {
		r.Path = append([]int{domain}, r.Path...)
	}
	if d.Intn(20) == 0 {
		r.Path = append(r.Path, repeated(5, api.MaxPath-len(r.Path)-d.Intn(3))...)
	}
	if domain == 1 {
		r.Pref, r.Author, r.Clusters = one(d, 99, 100, 100), one(d, 0, 0, 3, 5, 8), d.numbers(2, 3, 3, 3, 3, 6)
	}
	r.Med = d.Intn(3)
	for _, m := range []int{7, 8, api.MarkInside, api.MarkHere} {
		if d.Intn(8) == 0 {
			r.Marks = append(r.Marks, m)
		}
	}
	return r
}

var some = []api.Prefix{every, ten, long, eleven, {Addr: 0xffffffff, Len: 32}}

func (d drawing) prefixes() []api.Prefix {
	var out []api.Prefix
	for _, at := range some {
		if d.Intn(3) == 0 {
			out = append(out, at)
		}
	}
	return out
}

func (d drawing) update(domain int) api.PvMessage {
	m := api.PvMessage{Kind: api.PvUpdate, Have: d.prefixes()}
	m.Lost = slices.DeleteFunc(d.prefixes(), func(at api.Prefix) bool { return slices.Contains(m.Have, at) })
	if len(m.Have) > 0 {
		m.Route = d.route(domain)
	}
	if d.Intn(20) == 0 {
		m = one(d, api.PvMessage{Kind: api.PvAlive}, api.PvMessage{Kind: api.PvUpdate, Code: 1}, gone(ten, every), told(api.Route{Origin: 4}, ten))
	}
	return m
}

func (d drawing) ownRoutes() []api.Route {
	var out []api.Route
	for _, at := range d.prefixes() {
		r := d.route(1)
		r.Prefix = at
		out = append(out, r)
	}
	d.Shuffle(len(out), func(i, j int) { out[i], out[j] = out[j], out[i] })
	return out
}

func (d drawing) someCosts() []api.NextCost {
	var out []api.NextCost
	for _, next := range []uint32{far, near, 50} {
		if d.Intn(4) > 0 {
			out = append(out, api.NextCost{Next: next, Cost: d.Intn(3)})
		}
	}
	return out
}

// play does the same call with both, and answers what each of them says.
func (d drawing) play(s *speaker.Speaker, l *ledger) (what string, got []api.Told, e, want api.Errno) {
	n := d.Intn(peers)
	domain := l.config.Peers[n].Domain
	if d.Intn(40) == 0 {
		n = one(d, -1, peers)
	}
	switch d.Intn(16) {
	case 0, 1, 2:
		got, e = s.Up(n)
		return "Up", got, e, l.turn(n, true)
	case 3:
		got, e = s.Down(n)
		return "Down", got, e, l.turn(n, false)
	case 4:
		l.own = d.ownRoutes()
		got, e = s.Own(l.own)
		return "Own", got, e, api.OK
	case 5, 6:
		l.costs = d.someCosts()
		got, e = s.Costs(l.costs)
		return "Costs", got, e, api.OK
	}
	m := d.update(domain)
	got, e = s.Hear(n, m)
	return "Hear", got, e, l.hear(n, m)
}

func TestL1ToL7AgainstLedger(t *testing.T) {
	d := drawing{rand.New(rand.NewSource(1))}
	var have, lost, best, errors int
	for range 1500 {
		c := d.config()
		s, e := speaker.New(c)
		if e != api.OK {
			t.Fatalf("New %+v: %v", c, e)
		}
		l := newLedger(c)
		books := l.all()
		for range 60 {
			before := books
			what, got, e, wantError := d.play(s, l)
			books = l.all()
			want := l.news(before, books)
			if e != wantError || show(got) != show(want) {
				t.Fatalf("%s of %+v: %v\n%+v\nand must be %v\n%+v", what, c.Peers, e, got, wantError, want)
			}
			if got, want := s.Best(), l.bests(); show(got) != show(want) {
				t.Fatalf("Best behind %s of %+v:\n%+v\nand must be\n%+v", what, c.Peers, got, want)
			}
			if got, want := s.Nexts(), l.nexts(); !slices.Equal(got, want) {
				t.Fatalf("Nexts behind %s: %v, must be %v", what, got, want)
			}
			for _, x := range got {
				have += len(x.Message.Have)
				lost += len(x.Message.Lost)
			}
			best += len(s.Best())
			if e != api.OK {
				errors++
			}
		}
	}
	for what, n := range map[string]int{"have": have, "lost": lost, "best": best, "errors": errors} {
		if n < 10000 {
			t.Errorf("%s: only %d", what, n)
		}
	}
}
