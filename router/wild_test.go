package router_test

import (
	"slices"
	"testing"

	"wayfinder/api"
	"wayfinder/policy"
)

const wildRules = `
prefixes some { 10.0.0.0/8 to 12; 12.0.0.0/6 to 32; }
policy raise { if prefix some then pref 300; then accept; }
policy hide { if length > 2 then reject; then add 0:7, accept; }
policy long { then prepend 2, accept; }
`

// wildPool: few prefixes, so that several routers tell of one.
var wildPool = []api.Prefix{{Len: 0}, pre(0x0a000000, 8), pre(0x0a400000, 10), eleven, twelve, pre(0x0c000000, 7), pre(0x0e000000, 31), pre(101, 32)}

// wild draws routers that are joined in any way: over a wire packets may go, or a session, or both.
func wild(t *testing.T, seed int64) *world {
	w := newWorld(t, seed)
	n := 2 + w.Intn(3)
	rules, err := policy.Parse(wildRules)
	if err != nil {
		t.Fatal(err)
	}
	for i := range n {
		c := api.RouterConfig{Lsr: api.LsrConfig{ID: i + 1}}
		c.Speaker = api.SpeakerConfig{Domain: 1 + w.Intn(2), Id: 21 + i, Addr: one(w, uint32(100+i), uint32(i+1)), Cluster: one(w, 0, 6), Policies: rules}
		for _, k := range w.Perm(len(wildPool))[:w.Intn(4)] {
			c.Own = append(c.Own, api.Route{Prefix: wildPool[k], Origin: w.Intn(3), Path: one(w, nil, []int{7})})
		}
		for _, k := range w.Perm(len(wildPool))[:w.Intn(3)] {
			addFixed(&c, one(w, api.Fixed{Prefix: wildPool[k], Links: []int{w.Intn(2), 2 + w.Intn(2)}}, api.Fixed{Prefix: wildPool[k], Next: uint32(w.Intn(4))}))
		}
		w.configs = append(w.configs, c)
	}
	for range n + w.Intn(4) {
		l := w.Perm(n)
		w.joinWildly(l[0], l[1])
	}
	for i := range w.configs {
		c := &w.configs[i].Lsr
		for k, at := range w.Perm(len(wildPool) - 1)[:min(w.Intn(4), len(c.Ports))] {
			c.Stubs = append(c.Stubs, api.LsrStub{Area: c.Ports[k].Area, Prefix: wildPool[at], Cost: w.Intn(3)})
		}
	}
	w.homes = wildPool
	w.begin()
	return w
}

func addFixed(c *api.RouterConfig, f api.Fixed) {
	if !slices.ContainsFunc(c.Fixed, func(g api.Fixed) bool { return g.Prefix == f.Prefix }) {
		c.Fixed = append(c.Fixed, f)
	}
}

func (w *world) joinWildly(a, b int) {
	x := w.join(a, b)
	area, kind := w.Intn(2), w.Intn(8)
	for k := range 2 {
		c, other := &w.configs[x.router[k]], w.configs[x.router[1-k]].Speaker
		if kind != 0 && kind != 1 {
			p := api.SpeakerPeer{Domain: other.Domain, Id: other.Id, In: one(w, "", "", "raise", "hide"), Out: one(w, "", "", "hide", "long")}
			p.Client = c.Speaker.Cluster != 0 && p.Domain == c.Speaker.Domain && w.Intn(2) == 0
			c.Speaker.Peers = append(c.Speaker.Peers, p)
			c.Peers = append(c.Peers, api.RouterPeer{Link: x.link[k], Hold: one(w, 0, 3, 4, 6, 9, 9, 30)})
			addFixed(c, api.Fixed{Prefix: pre(other.Addr, 32), Links: []int{x.link[k]}})
		}
		if kind != 2 && kind != 3 {
			c.Lsr.Ports = append(c.Lsr.Ports, api.LsrPort{Link: x.link[k], Area: area, Cost: 1 + w.Intn(3)})
		}
	}
}

// stir puts something onto a wire that nobody has sent.
func (w *world) stir() {
	x, k := w.wires[w.Intn(len(w.wires))], w.Intn(2)
	says := w.configs[x.router[k]].Speaker
	next := one(w, says.Addr, says.Addr, uint32(w.Intn(5)))
	at := wildPool[w.Intn(len(wildPool))]
	update := api.PvMessage{Kind: api.PvUpdate, Have: []api.Prefix{at}, Route: api.Route{Path: []int{says.Domain, 9}, Next: next, Med: w.Intn(2)}}
	several := update
	several.Have = many(0x2000+100*w.Intn(4), 100+w.Intn(100))
	var f []byte
	switch w.Intn(9) {
	case 0, 1:
		f = frameOf(update, update, lost(at))
	case 2, 3:
		f = frameOf(several)
	case 4:
		f = frameOf(several, update, several)
	case 5:
		f = frameOf(lost(at), api.PvMessage{Kind: api.PvNotice})
	case 6:
		f = data(at.Addr|w.Uint32()&0xff, w.Intn(6), "wild")
	case 7:
		f = []byte{byte(w.Intn(6)), byte(w.Intn(256)), 0, 0, 0, byte(w.Intn(256)), 7}[:w.Intn(8)]
	default:
		f = frameOf(update, alive)
		f[w.Intn(len(f))] ^= byte(1 << w.Intn(8))
	}
	x.way[k] = append(x.way[k], f)
}

// TestN2ToN8Wild: whatever comes, in whatever order, each router answers at each call what the layers make of it by the document's words.
func TestN2ToN8Wild(t *testing.T) {
	t.Parallel()
	kinds, ups, came := map[int]int{}, 0, 0
	for seed := range int64(40) {
		w := wild(t, seed)
		for _, x := range w.wires {
			w.mend(x)
		}
		for range 400 {
			w.harm()
			if w.Intn(8) == 0 {
				w.stir()
			}
			if w.Intn(40) == 0 {
				w.renew()
				// Where policies are against each other, they may go on for ever.
				w.settleWithin(200)
			}
		}
		for i, r := range w.routers {
			for _, row := range r.is.Rows() {
				kinds[row.Kind]++
			}
			for n := range w.configs[i].Peers {
				if r.is.State(n) == api.SessionUp {
					ups++
				}
			}
			came += len(r.arrived())
		}
	}
	if ups < 50 || came < 50 {
		t.Errorf("only %d sessions up, and %d times data came", ups, came)
	}
	for kind := api.RowLocal; kind <= api.RowInner; kind++ {
		if kind != api.RowExternal && kinds[kind] < 20 {
			t.Errorf("only %d rows of kind %d", kinds[kind], kind)
		}
	}
}
