package pv_test

import (
	"encoding/binary"
	"math"
	"math/rand"
	"slices"
	"testing"

	"wayfinder/api"
	"wayfinder/pv"
)

// top is the greatest number of four bytes.
const top = 1<<32 - 1

// beyond are numbers that no field may have.
var beyond = []int{-1, math.MinInt, math.MaxInt, 1 << 32, 1<<32 + 1, -1 << 32}

func at(a uint32, n int) api.Prefix { return api.Prefix{Addr: a, Len: n} }

// anOpen, anUpdate, anAlive and aNotice are right ones of each kind; the update has all that one may have.
func anOpen() api.PvMessage {
	return api.PvMessage{Kind: api.PvOpen, Domain: 0x01020304, Id: 0x05060708, Hold: 0x090a}
}

func anUpdate() api.PvMessage {
	return api.PvMessage{Kind: api.PvUpdate,
		Lost: []api.Prefix{at(0, 0), at(0x0a000000, 8), at(0x0a000000, 9)},
		Have: []api.Prefix{at(0x0b000000, 8), at(top, 32)},
		Route: api.Route{Path: []int{1, top, 1}, Origin: 2, Pref: 7, Med: 8, Next: 9,
			Marks: []int{0, 5, top}, Clusters: []int{6, 0, top}, Author: 3}}
}

func anAlive() api.PvMessage { return api.PvMessage{Kind: api.PvAlive} }

func aNotice() api.PvMessage { return api.PvMessage{Kind: api.PvNotice, Code: 6} }

func oneOfEach() []api.PvMessage {
	return []api.PvMessage{anOpen(), anUpdate(), {Kind: api.PvUpdate}, {Kind: api.PvUpdate, Lost: anUpdate().Lost}, {Kind: api.PvUpdate, Have: anUpdate().Have}, anAlive(), aNotice()}
}

// turn changes a copy, whose lists are its own.
func turn(m api.PvMessage, f func(*api.PvMessage)) api.PvMessage {
	m.Lost, m.Have = slices.Clone(m.Lost), slices.Clone(m.Have)
	m.Route.Path, m.Route.Marks, m.Route.Clusters = slices.Clone(m.Route.Path), slices.Clone(m.Route.Marks), slices.Clone(m.Route.Clusters)
	f(&m)
	return m
}

// sum works the sum out in numbers without bounds, as the chapter tells it.
func sum(b []byte) int {
	n := 65535
	for _, c := range b {
		n ^= 256 * int(c)
		for range 8 {
			high := n >= 32768
			n = 2 * n % 65536
			if high {
				n ^= 4129
			}
		}
	}
	return n
}

// seal puts ahead of a body what all messages begin with.
func seal(kind int, body []byte) []byte {
	b := []byte{255, 255, 255, 255}
	b = binary.BigEndian.AppendUint16(b, uint16(9+len(body)))
	b = append(b, byte(kind))
	b = binary.BigEndian.AppendUint16(b, uint16(sum(append([]byte{byte(kind)}, body...))))
	return append(b, body...)
}

// counted puts ahead of bytes how many they are.
func counted(b []byte) []byte {
	return append(binary.BigEndian.AppendUint16(nil, uint16(len(b))), b...)
}

// parts of an update.
func parts(lost, attributes, have []byte) []byte {
	return slices.Concat(counted(lost), counted(attributes), have)
}

func attribute(kind int, value ...byte) []byte {
	return append([]byte{byte(kind)}, counted(value)...)
}

func four(numbers ...int) []byte {
	var b []byte
	for _, n := range numbers {
		b = binary.BigEndian.AppendUint32(b, uint32(n))
	}
	return b
}

func layPrefixes(l []api.Prefix) []byte {
	var b []byte
	for _, p := range l {
		addr := four(int(p.Addr))
		b = append(b, byte(p.Len))
		for i := 0; 8*i < p.Len; i++ {
			b = append(b, addr[i])
		}
	}
	return b
}

// layAttributes gives those of an update, one by one.
func layAttributes(m api.PvMessage) [][]byte {
	var out [][]byte
	r := m.Route
	if len(m.Have) > 0 {
		out = append(out, attribute(1, byte(r.Origin)), attribute(2, four(r.Path...)...), attribute(3, four(int(r.Next))...))
	}
	if r.Med != 0 {
		out = append(out, attribute(4, four(r.Med)...))
	}
	if r.Pref != 0 {
		out = append(out, attribute(5, four(r.Pref)...))
	}
	if len(r.Marks) != 0 {
		out = append(out, attribute(6, four(r.Marks...)...))
	}
	if r.Author != 0 {
		out = append(out, attribute(7, four(r.Author)...))
	}
	if len(r.Clusters) != 0 {
		out = append(out, attribute(8, four(r.Clusters...)...))
	}
	return out
}

// lay gives what follows behind a message's sum.
func lay(m api.PvMessage) []byte {
	switch m.Kind {
	case api.PvOpen:
		b := append([]byte{1}, four(m.Domain)...)
		return append(binary.BigEndian.AppendUint16(b, uint16(m.Hold)), four(m.Id)...)
	case api.PvUpdate:
		return parts(layPrefixes(m.Lost), slices.Concat(layAttributes(m)...), layPrefixes(m.Have))
	case api.PvNotice:
		return []byte{byte(m.Code)}
	}
	return nil
}

func model(m api.PvMessage) []byte { return seal(m.Kind, lay(m)) }

// same makes no difference between lists that are empty and that are not there.
func same(x, y api.PvMessage) bool {
	return x.Kind == y.Kind && x.Domain == y.Domain && x.Id == y.Id && x.Hold == y.Hold && x.Code == y.Code &&
		slices.Equal(x.Lost, y.Lost) && slices.Equal(x.Have, y.Have) && sameRoute(x.Route, y.Route)
}

func sameRoute(x, y api.Route) bool {
	return x.Prefix == y.Prefix && x.Origin == y.Origin && x.Pref == y.Pref && x.Med == y.Med && x.Next == y.Next && x.Author == y.Author &&
		slices.Equal(x.Path, y.Path) && slices.Equal(x.Marks, y.Marks) && slices.Equal(x.Clusters, y.Clusters)
}

// edge draws a number of a range, its ends often.
func edge(r *rand.Rand, least, most int) int {
	switch r.Intn(4) {
	case 0:
		return least
	case 1:
		return most
	}
	return least + r.Intn(most-least+1)
}

func drawPrefix(r *rand.Rand) api.Prefix {
	n := edge(r, 0, 32)
	return at(r.Uint32()&^uint32(1<<(32-n)-1), n)
}

func drawNumbers(r *rand.Rand, most, least int) []int {
	count := r.Intn(4)
	if r.Intn(8) == 0 {
		count = most
	}
	var out []int
	for range count {
		out = append(out, edge(r, least, top))
	}
	return out
}

// drawUpdate draws an update that can be encoded, if it is not too long.
func drawUpdate(r *rand.Rand) api.PvMessage {
	m := api.PvMessage{Kind: api.PvUpdate}
	drawn := map[api.Prefix]int{}
	for range r.Intn(8) {
		drawn[drawPrefix(r)] = r.Intn(2)
	}
	for p, which := range drawn {
		if which == 0 {
			m.Lost = append(m.Lost, p)
		} else {
			m.Have = append(m.Have, p)
		}
	}
	order := func(p, q api.Prefix) int { return int(p.Addr)*64 + p.Len - int(q.Addr)*64 - q.Len }
	slices.SortFunc(m.Lost, order)
	slices.SortFunc(m.Have, order)
	if len(m.Have) > 0 {
		m.Route = drawRoute(r)
	}
	return m
}

func drawRoute(r *rand.Rand) api.Route {
	few := func() int { return r.Intn(2) * edge(r, 0, top) }
	route := api.Route{Path: drawNumbers(r, api.MaxPath, 1), Origin: r.Intn(3), Pref: few(), Med: few(), Next: uint32(few()),
		Marks: drawNumbers(r, api.MaxMarks, 0), Clusters: drawNumbers(r, api.MaxMarks, 0), Author: few()}
	slices.Sort(route.Marks)
	route.Marks = slices.Compact(route.Marks)
	return route
}

// drawMessage draws a message that can be encoded.
func drawMessage(r *rand.Rand) api.PvMessage {
	switch r.Intn(6) {
	case 0:
		return api.PvMessage{Kind: api.PvOpen, Domain: edge(r, 1, top), Id: edge(r, 1, top), Hold: r.Intn(2) * edge(r, 3, 65535)}
	case 1:
		return anAlive()
	case 2:
		return api.PvMessage{Kind: api.PvNotice, Code: edge(r, 0, 255)}
	}
	return drawUpdate(r)
}

// encoded asks Encode for the bytes of a message that must have some.
func encoded(t *testing.T, m api.PvMessage) []byte {
	t.Helper()
	b, e := pv.Encode(m)
	if e != api.OK {
		t.Fatalf("Encode %+v: %v", m, e)
	}
	return b
}

// refused asks Encode for what it must say of a message; api.OK: that it takes it.
func refused(t *testing.T, what string, want api.Errno, m api.PvMessage) {
	t.Helper()
	if b, e := pv.Encode(m); e != want || (e != api.OK) != (b == nil) {
		t.Errorf("%s: Encode %+v: %x %v, must be %v", what, m, b, e, want)
	}
}

func unread(t *testing.T, what string, want api.Errno, b []byte) {
	t.Helper()
	if m, e := pv.Decode(b); e != want || !same(m, api.PvMessage{}) {
		t.Errorf("%s: Decode %x: %+v %v, must be %v", what, b, m, e, want)
	}
}

func read(t *testing.T, what string, want api.PvMessage, b []byte) {
	t.Helper()
	if m, e := pv.Decode(b); e != api.OK || !same(m, want) {
		t.Errorf("%s: Decode %x:\n%+v %v, must be\n%+v", what, b, m, e, want)
	}
}
