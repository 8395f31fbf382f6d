package pv_test

import (
	"bytes"
	"math/rand"
	"slices"
	"testing"

	"wayfinder/api"
	"wayfinder/pv"
)

// spoil writes over all of a list, and over the spare room behind it.
func spoil[T any](l []T) { clear(l[:cap(l)]) }

// spoilMessage writes over all lists of a message.
func spoilMessage(m api.PvMessage) {
	spoil(m.Lost)
	spoil(m.Have)
	spoil(m.Route.Path)
	spoil(m.Route.Marks)
	spoil(m.Route.Clusters)
}

// roomy gives the same list with room behind it, in which numbers stand.
func roomy[T any](l []T, fill T) []T {
	return append(slices.Clone(l), slices.Repeat([]T{fill}, 9)...)[:len(l)]
}

func TestP1AnyBytes(t *testing.T) {
	r := rand.New(rand.NewSource(9))
	for range 20000 {
		body := make([]byte, r.Intn(60))
		for i := range body {
			body[i] = byte(edge(r, 0, edge(r, 1, 255)))
		}
		kind := r.Intn(6)
		if m, e := pv.Decode(seal(kind, body)); e == api.OK && m.Kind != kind || e != api.OK && !same(m, api.PvMessage{}) {
			t.Fatalf("%d %x was taken as %+v %v", kind, body, m, e)
		}
		pv.Decode(body)
		pv.NewStream().Take(body)
	}
}

func TestP1AnyMessage(t *testing.T) {
	for _, n := range append(slices.Clone(beyond), 0, 1, 256) {
		for kind := -1; kind < 6; kind++ {
			m := api.PvMessage{Kind: kind, Domain: n, Id: n, Hold: n, Code: n, Lost: []api.Prefix{at(uint32(n), n)}, Have: []api.Prefix{at(uint32(n), n)},
				Route: api.Route{Prefix: at(uint32(n), n), Path: []int{n, n}, Origin: n, Pref: n, Med: n, Next: uint32(n), Marks: []int{n, n}, Clusters: []int{n}, Author: n}}
			if b, e := pv.Encode(m); e == api.OK || b != nil {
				t.Errorf("%+v: %x %v", m, b, e)
			}
		}
	}
}

func TestP2OnlyRead(t *testing.T) {
	m, n := anUpdate(), anUpdate()
	for _, x := range []*api.PvMessage{&m, &n} {
		x.Lost, x.Have = roomy(x.Lost, at(7, 7)), roomy(x.Have, at(7, 7))
		x.Route.Path, x.Route.Marks, x.Route.Clusters = roomy(x.Route.Path, 7), roomy(x.Route.Marks, 7), roomy(x.Route.Clusters, 7)
	}
	b := roomy(encoded(t, m), 7)
	c := roomy(b, 7)
	pv.Decode(b)
	s := pv.NewStream()
	s.Take(b[:20])
	s.Take(b[20:])
	s.Take(b)
	whole := func(x api.PvMessage) api.PvMessage {
		x.Lost, x.Have = x.Lost[:12], x.Have[:11]
		x.Route.Path, x.Route.Marks, x.Route.Clusters = x.Route.Path[:12], x.Route.Marks[:12], x.Route.Clusters[:12]
		return x
	}
	if !same(whole(m), whole(n)) || !bytes.Equal(b[:len(b)+9], c[:len(c)+9]) {
		t.Errorf("what was handed in has changed: %+v %x", whole(m), b[:len(b)+9])
	}
}

func TestP2NewMemory(t *testing.T) {
	m := anUpdate()
	b, c := encoded(t, m), encoded(t, m)
	spoil(b)
	spoilMessage(m)
	if !bytes.Equal(c, model(anUpdate())) {
		t.Fatalf("Encode's answers share memory: %x", c)
	}
	first, _ := pv.Decode(c)
	second, _ := pv.Decode(c)
	both, _ := pv.NewStream().Take(slices.Concat(c, c))
	third, _ := pv.NewStream().Take(c)
	spoil(c)
	spoilMessage(second)
	spoilMessage(both[1])
	for _, x := range []api.PvMessage{first, both[0], third[0]} {
		if !same(x, anUpdate()) {
			t.Errorf("what was read shares memory: %+v", x)
		}
	}
}

// TestP2NoTwoListsShare: whoever puts more behind a list writes into its spare room, which must be nobody else's.
func TestP2NoTwoListsShare(t *testing.T) {
	b := model(anUpdate())
	m, _ := pv.Decode(b)
	_, _ = append(m.Lost, at(7, 7), at(7, 7)), append(m.Have, at(7, 7), at(7, 7))
	_, _, _ = append(m.Route.Path, 7, 7), append(m.Route.Marks, 7, 7), append(m.Route.Clusters, 7, 7)
	if !same(m, anUpdate()) || !bytes.Equal(b, model(anUpdate())) {
		t.Errorf("lists share memory: %+v", m)
	}
}

// TestP3OnNothingElse asks the same in another order, with refused calls and other streams between.
func TestP3OnNothingElse(t *testing.T) {
	r := rand.New(rand.NewSource(10))
	bad := pv.NewStream()
	bad.Take([]byte{9})
	one, two := pv.NewStream(), pv.NewStream()
	for range 300 {
		m := drawMessage(r)
		b := model(m)
		if len(b) > 1024 {
			continue
		}
		half := r.Intn(len(b))
		one.Take(b[:half])
		two.Take(b[:half])
		bad.Take(b)
		pv.Decode(b[1:])
		pv.Encode(api.PvMessage{Kind: 9})
		if one.Waiting() != half || two.Waiting() != half {
			t.Fatalf("%d wait, must be %d", one.Waiting(), half)
		}
		x, e := one.Take(b[half:])
		y, f := two.Take(b[half:])
		if e != api.OK || f != api.OK || len(x) != 1 || len(y) != 1 || !same(x[0], m) || !same(y[0], m) || !bytes.Equal(encoded(t, m), b) {
			t.Fatalf("another answer for %+v: %+v %v, %+v %v", m, x, e, y, f)
		}
	}
}
