package router_test

import (
	"fmt"
	"strings"
	"testing"

	"wayfinder/api"
	"wayfinder/policy"
)

// oneDomain draws routers of one domain, without peers.
func oneDomain(t *testing.T, seed int64) *world {
	w := newWorld(t, seed)
	area := one(w, 0, 7, 65534)
	n := 2 + w.Intn(3)
	for i := range n {
		id := one(w, i+1, 1<<32-1-i)
		w.configs = append(w.configs, api.RouterConfig{Lsr: api.LsrConfig{ID: id}, Speaker: api.SpeakerConfig{Domain: 1 + w.Intn(3), Id: 1 + w.Intn(3)}})
	}
	for range w.Intn(n + 3) {
		l := w.Perm(n)
		x := w.join(l[0], l[1])
		for k := range 2 {
			ports := &w.configs[x.router[k]].Lsr.Ports
			*ports = append(*ports, api.LsrPort{Link: x.link[k], Area: area, Cost: one(w, 1, 1+w.Intn(4), 65535)})
		}
	}
	w.homes = make([]api.Prefix, n)
	for i := range w.configs {
		c := &w.configs[i].Lsr
		if w.Intn(4) == 0 {
			c.Ports = append(c.Ports, api.LsrPort{Link: w.link(i), Area: area, Cost: 1})
		}
		if len(c.Ports) > 0 {
			w.homes[i] = w.home(i)
			c.Stubs = []api.LsrStub{{Area: area, Prefix: w.homes[i], Cost: one(w, 0, w.Intn(5), 65535)}}
		}
	}
	w.begin()
	return w
}

// ofDomains draws routers of a domain each, of whose wires it is told which routers they join.
//
// If packets go over the wires, too, each router's prefix is told from area to area: that is no harm where data may go everywhere.
func ofDomains(t *testing.T, seed int64, n int, packets bool, wires func(w *world) [][2]int, turn func(w *world)) *world {
	w := newWorld(t, seed)
	names := w.Perm(9)
	for i := range n {
		c := api.RouterConfig{Lsr: api.LsrConfig{ID: one(w, i+1, 1<<32-1-i)}, Speaker: api.SpeakerConfig{Domain: names[i] + 1, Id: 21 + i, Addr: uint32(100 + i)}}
		c.Lsr.Ports = []api.LsrPort{{Link: w.Intn(65536), Area: 7, Cost: 1}}
		home := w.home(i)
		c.Lsr.Stubs = []api.LsrStub{{Area: 7, Prefix: home, Cost: w.Intn(3)}}
		c.Own = []api.Route{{Prefix: home, Origin: w.Intn(3), Med: w.Intn(3)}}
		w.configs, w.homes = append(w.configs, c), append(w.homes, home)
	}
	for _, ends := range wires(w) {
		x := w.join(ends[0], ends[1])
		for k := range 2 {
			w.talk(x, k)
			if c := &w.configs[x.router[k]]; packets {
				c.Lsr.Ports = append(c.Lsr.Ports, api.LsrPort{Link: x.link[k], Area: one(w, 0, 3), Cost: 1})
			}
		}
	}
	turn(w)
	w.begin()
	return w
}

// talk lets a session run over the end of a wire, and a row lead to the neighbour.
func (w *world) talk(x *wire, k int) {
	c, near := &w.configs[x.router[k]], w.configs[x.router[1-k]].Speaker
	c.Speaker.Peers = append(c.Speaker.Peers, api.SpeakerPeer{Domain: near.Domain, Id: near.Id})
	c.Peers = append(c.Peers, api.RouterPeer{Link: x.link[k], Hold: one(w, 0, 3, 4, 9, 30, 65535)})
	at := pre(near.Addr, 32)
	for i := range c.Fixed {
		if f := &c.Fixed[i]; f.Prefix == at {
			if was := f.Links[0]; w.Intn(3) == 0 {
				f.Links = []int{min(was, x.link[k]), max(was, x.link[k])}
			} else if w.Intn(2) == 0 {
				f.Links = []int{x.link[k]}
			}
			return
		}
	}
	c.Fixed = append(c.Fixed, api.Fixed{Prefix: at, Links: []int{x.link[k]}})
}

// someDomains draws routers of a domain each that have no policies.
func someDomains(t *testing.T, seed int64) *world {
	n := 2 + int(seed%3)
	return ofDomains(t, seed, n, seed%4 == 0, func(w *world) [][2]int {
		var out [][2]int
		for range w.Intn(n + 3) {
			l := w.Perm(n)
			out = append(out, [2]int{l[0], l[1]})
		}
		return out
	}, func(*world) {})
}

// drawn gives worlds of both kinds that N9 tells of.
func drawn(t *testing.T, seed int64) *world {
	if seed%2 == 0 {
		return oneDomain(t, seed)
	}
	return someDomains(t, seed/2)
}

func TestN9DataArrives(t *testing.T) {
	t.Parallel()
	said := 0
	for seed := range int64(60) {
		w := drawn(t, seed)
		for _, x := range w.wires {
			w.mend(x)
		}
		w.quiet(120)
		w.arrives(w.joined)
		said += w.said
	}
	if said < 1000 {
		t.Errorf("only %d times data was sent", said)
	}
}

// harm lets something happen.
func (w *world) harm() {
	i := w.Intn(len(w.routers))
	if w.Intn(3) == 0 {
		w.routers[i].tick()
	}
	if home := w.homes[w.Intn(len(w.homes))]; w.Intn(10) == 0 {
		w.routers[i].send(home.Addr, []byte("early"))
	}
	w.send()
	if len(w.wires) == 0 {
		return
	}
	x, k := w.wires[w.Intn(len(w.wires))], w.Intn(2)
	n := len(x.way[k])
	switch chance := w.Intn(40); {
	case chance == 0:
		w.cut(x)
	case chance < 3:
		w.mend(x)
	case n == 0:
	case chance < 5: // lost
		x.way[k] = x.way[k][1:]
	case chance < 7: // twice
		x.way[k] = append(x.way[k], x.way[k][0])
	case chance < 9: // late
		w.deliver(x, k, w.Intn(n))
	default:
		w.deliver(x, k, 0)
	}
}

func TestN10CutAndMended(t *testing.T) {
	t.Parallel()
	for seed := range int64(60) {
		w := drawn(t, seed)
		for _, x := range w.wires {
			if w.Intn(4) > 0 {
				w.mend(x)
			}
		}
		for range w.Intn(2000) {
			w.harm()
		}
		w.renew()
		w.quiet(120)
		w.arrives(w.joined)
	}
}

// How one router stands to another.
const (
	strange = iota
	provider
	customer
	even
)

// market is how routers stand to each other: of [a][b], what b is for a.
type market [5][5]int

func (m *market) wires(w *world, n int) [][2]int {
	var out [][2]int
	rank := w.Perm(n)
	for a := range n {
		for b := range a {
			up, down := a, b
			if rank[a] < rank[b] {
				up, down = b, a
			}
			switch w.Intn(4) {
			case 0:
				m[a][b], m[b][a] = even, even
			case 1, 2:
				m[down][up], m[up][down] = provider, customer
			default:
				continue
			}
			out = append(out, [2]int{a, b})
		}
	}
	return out
}

// rules are the policies of routers that deal so. Which routes customers have told is seen by a mark, or by the path.
func (m *market) rules(w *world) {
	byMark := w.Intn(2) == 0
	for a := range w.configs {
		c := &w.configs[a]
		c.Speaker.Policies = m.file(w, a, byMark)
		if byMark {
			c.Own[0].Marks = []int{65537}
		}
		for i, p := range c.Speaker.Peers {
			kind := m[a][w.byDomain(p.Domain)]
			c.Speaker.Peers[i].In = [...]string{provider: "from-provider", customer: "from-customer", even: "from-even"}[kind]
			if kind != customer {
				c.Speaker.Peers[i].Out = "out"
			}
		}
	}
}

func (m *market) file(w *world, a int, byMark bool) api.PolicyFile {
	text := `
policy from-provider { then pref 50, accept; }
policy from-even { then pref 100, accept; }
policy from-customer { then pref 150, accept; }
paths ours { `
	text += fmt.Sprint(w.configs[a].Speaker.Domain)
	for b, kind := range m[a] {
		if kind == customer {
			text += fmt.Sprint(" | ", w.configs[a].Speaker.Domain, " ", w.configs[b].Speaker.Domain, " . *")
		}
	}
	text += " }\npolicy out { if path ours then accept; }"
	if byMark {
		text = `
policy from-provider { then drop 1:1, pref 50, accept; }
policy from-even { then pref 60, drop 1:1, accept; }
policy from-customer { then add 1:1, pref 70, accept; }
policy out { if mark 1:1 then accept; }`
	}
	f, err := policy.Parse(strings.TrimSpace(text))
	if err != nil {
		w.t.Fatalf("%s: %v", text, err)
	}
	return f
}

func (w *world) byDomain(domain int) int {
	for i, c := range w.configs {
		if c.Speaker.Domain == domain {
			return i
		}
	}
	return -1
}

// leads says whether a way goes up, once at most across, and down. descends: it has gone across or down already.
func (m *market) leads(a, b int, descends bool) bool {
	if a == b {
		return true
	}
	for c, kind := range m[a] {
		switch {
		case kind == provider && !descends:
			if m.leads(c, b, false) {
				return true
			}
		case kind == even && !descends, kind == customer:
			if m.leads(c, b, true) {
				return true
			}
		}
	}
	return false
}

func TestN11ProvidersAndCustomers(t *testing.T) {
	t.Parallel()
	yes, no := 0, 0
	for seed := range int64(60) {
		m, n := &market{}, 2+int(seed%4)
		w := ofDomains(t, seed, n, false, func(w *world) [][2]int { return m.wires(w, n) }, m.rules)
		for _, i := range w.Perm(len(w.wires)) {
			w.mend(w.wires[i])
		}
		if seed%3 == 0 {
			for range w.Intn(1000) {
				w.harm()
			}
			w.renew()
		}
		w.quiet(120)
		w.arrives(func(a, b int) bool {
			leads := m.leads(a, b, false)
			if leads {
				yes++
			} else if w.joined(a, b) {
				no++
			}
			return leads
		})
	}
	if yes < 300 || no < 60 {
		t.Errorf("only %d times data must arrive, and %d times it must not though wires lead there", yes, no)
	}
}
