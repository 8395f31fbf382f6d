package lsa_test

import (
	"bytes"
	"encoding/binary"
	"encoding/hex"
	"fmt"
	"hash/crc32"
	"math"
	"math/bits"
	"math/rand"
	"slices"
	"strings"
	"testing"

	"wayfinder/api"
	"wayfinder/lsa"
)

// sum asks the library for the check: its own remainder goes from the lowest bit on and is turned at its end.
func sum(b []byte) uint32 {
	turned := make([]byte, len(b))
	for i, c := range b {
		turned[i] = bits.Reverse8(c)
	}
	return bits.Reverse32(^crc32.ChecksumIEEE(turned))
}

// seal puts the length where it stands, and the check behind.
func seal(b []byte) []byte {
	b = slices.Clone(b)
	binary.BigEndian.PutUint16(b[4:], uint16(len(b)+4))
	return binary.BigEndian.AppendUint32(b, sum(b))
}

// lay gives a packet's bytes ahead of the check, whatever its fields are, with a count of its own.
func lay(p api.Packet, count int) []byte {
	b := []byte{0x57, 0x46, byte(p.Kind), byte(count), 0, 0}
	b = binary.BigEndian.AppendUint16(b, uint16(p.Area))
	b = binary.BigEndian.AppendUint32(b, uint32(p.From))
	b = binary.BigEndian.AppendUint32(b, uint32(p.Seen))
	for _, x := range p.Lsas {
		b = append(b, layLsa(x)...)
	}
	return b
}

func layLsa(x api.Lsa) []byte {
	b := []byte{byte(x.Kind), byte(len(x.Links)), byte(len(x.Stubs)), byte(x.Prefix.Len)}
	b = binary.BigEndian.AppendUint16(b, uint16(x.Area))
	b = binary.BigEndian.AppendUint16(b, uint16(x.Age))
	for _, n := range []int{x.Origin, x.Seq, int(x.Prefix.Addr), x.Cost, x.Tag} {
		b = binary.BigEndian.AppendUint32(b, uint32(n))
	}
	for _, l := range x.Links {
		b = binary.BigEndian.AppendUint32(b, uint32(l.To))
		b = binary.BigEndian.AppendUint16(b, uint16(l.Cost))
		b = binary.BigEndian.AppendUint16(b, uint16(l.Link))
	}
	for _, s := range x.Stubs {
		b = binary.BigEndian.AppendUint32(b, s.Prefix.Addr)
		b = append(b, byte(s.Prefix.Len))
		b = binary.BigEndian.AppendUint16(b, uint16(s.Cost))
	}
	return b
}

func model(p api.Packet) []byte { return seal(lay(p, len(p.Lsas))) }

func update(lsas ...api.Lsa) api.Packet {
	return api.Packet{Kind: api.PktUpdate, From: 4, Area: 5, Lsas: lsas}
}

// drawPacket draws a packet that can be encoded.
func drawPacket(r *rand.Rand) api.Packet {
	p := api.Packet{Kind: 1 + r.Intn(3), From: edge(r, 1, 1<<32-1), Area: edge(r, 0, 65534)}
	if p.Kind == api.PktHello {
		p.Seen = edge(r, 0, 1<<32-1)
		return p
	}
	for range edge(r, 1, api.MaxLsas) {
		x := drawRight(r)
		if len(model(p))+len(layLsa(x)) <= api.MaxPacket {
			p.Lsas = append(p.Lsas, x)
		}
	}
	return p
}

// encoded asks Encode for the bytes of a packet that must have some.
func encoded(t *testing.T, p api.Packet) []byte {
	t.Helper()
	b, e := lsa.Encode(p)
	if e != api.OK {
		t.Fatalf("Encode %+v: %v", p, e)
	}
	return b
}

func same(p, q api.Packet) bool { return fmt.Sprintf("%+v", p) == fmt.Sprintf("%+v", q) }

func refused(t *testing.T, what string, want api.Errno, p api.Packet) {
	t.Helper()
	if b, e := lsa.Encode(p); e != want || (e != api.OK) != (b == nil) {
		t.Errorf("%s: Encode %+v: %x %v, must be %v", what, p, b, e, want)
	}
}

func unread(t *testing.T, what string, want api.Errno, b []byte) {
	t.Helper()
	if p, e := lsa.Decode(b); e != want || e != api.OK && !same(p, api.Packet{}) {
		t.Errorf("%s: Decode %x: %+v %v, must be %v", what, b, p, e, want)
	}
}

func TestF4Bytes(t *testing.T) {
	for _, c := range []struct {
		p    api.Packet
		want string
	}{
		{api.Packet{Kind: api.PktHello, From: 1}, "57460100 0014 0000 00000001 00000000 a6d59c66"},
		{api.Packet{Kind: api.PktHello, From: 0x01020304, Area: 0x0506, Seen: 0x0708090a}, "57460100 0014 0506 01020304 0708090a"},
		{api.Packet{Kind: api.PktAck, From: 1<<32 - 1, Area: 65534, Lsas: []api.Lsa{{
			Kind: api.LsaExternal, Area: api.Everywhere, Origin: 0x01020304, Seq: 0x05060708, Age: 0x51,
			Prefix: at(0x090a0b0c, 30), Cost: 0x0d0e0f, Tag: 0x10111213,
		}}}, "57460301 0030 fffe ffffffff 00000000 0300001e ffff 0051 01020304 05060708 090a0b0c 000d0e0f 10111213"},
		{update(aSummary(), api.Lsa{
			Kind: api.LsaRouter, Area: 0x0102, Origin: 0x03040506, Seq: 0x0708090a, Age: 0x0b,
			Links: []api.LsLink{{To: 0x0c0d0e0f, Cost: 0x1011, Link: 0x1213}, {To: 0x14151617, Cost: 0x1819, Link: 0x1a1b}},
			Stubs: []api.LsStub{{Prefix: at(0x1c1d1e20, 27), Cost: 0x2021}},
		}), "57460202 0063 0005 00000004 00000000" +
			"02000008 0000 0077 00000009 00000007 0a000000 0000004d 00000000" +
			"01020100 0102 000b 03040506 0708090a 00000000 00000000 00000000" +
			"0c0d0e0f 1011 1213 14151617 1819 1a1b 1c1d1e20 1b 2021"},
	} {
		want, err := hex.DecodeString(strings.ReplaceAll(c.want, " ", ""))
		if err != nil {
			t.Fatal(err)
		}
		b := encoded(t, c.p)
		if !bytes.HasPrefix(b, want) || !bytes.Equal(b, model(c.p)) {
			t.Errorf("Encode %+v:\n%x, must be\n%x", c.p, b, want)
		}
	}
}

func TestF4F5F7AgainstModel(t *testing.T) {
	r := rand.New(rand.NewSource(5))
	for range 5000 {
		p := drawPacket(r)
		b := encoded(t, p)
		if want := model(p); !bytes.Equal(b, want) {
			t.Fatalf("Encode %+v:\n%x, must be\n%x", p, b, want)
		}
		if q, e := lsa.Decode(b); e != api.OK || !same(p, q) {
			t.Fatalf("Decode: %+v %v, must be\n%+v", q, e, p)
		}
	}
}

// TestF5Check works the check out bit by bit, as the chapter tells it.
func TestF5Check(t *testing.T) {
	r := rand.New(rand.NewSource(6))
	for range 300 {
		b := encoded(t, drawPacket(r))
		n := uint32(0xffffffff)
		for _, c := range b[:len(b)-4] {
			for i := 7; i >= 0; i-- {
				taken := n >= 0x80000000
				if c>>i&1 == 1 {
					taken = !taken
				}
				n <<= 1
				if taken {
					n ^= 0x04c11db7
				}
			}
		}
		if is := binary.BigEndian.Uint32(b[len(b)-4:]); is != n {
			t.Fatalf("the check of %x: %x, must be %x", b, is, n)
		}
	}
}

func TestF6Kind(t *testing.T) {
	for _, kind := range append([]int{0, 4, 255, 256, 257, 258, 259}, beyond...) {
		refused(t, "kind", api.ErrKind, api.Packet{Kind: kind, From: 1})
		refused(t, "kind ahead of range", api.ErrKind, api.Packet{Kind: kind, From: 0, Area: -1, Lsas: make([]api.Lsa, 200)})
	}
}

func TestF6AllKinds(t *testing.T) {
	for _, p := range []api.Packet{
		{Kind: api.PktHello, From: 1},
		update(aRouter()),
		{Kind: api.PktAck, From: 1, Lsas: []api.Lsa{aSummary(), anExternal()}},
	} {
		refused(t, "as it is", api.OK, p)
		for _, n := range append([]int{0}, beyond...) {
			q := p
			q.From = n
			refused(t, "from", api.ErrRange, q)
		}
		for _, n := range append([]int{65535, 65536}, beyond...) {
			q := p
			q.Area = n
			refused(t, "area", api.ErrRange, q)
		}
		p.From, p.Area = 1<<32-1, 65534
		refused(t, "the greatest", api.OK, p)
	}
}

func TestF6Hello(t *testing.T) {
	p := api.Packet{Kind: api.PktHello, From: 1, Seen: 1<<32 - 1, Lsas: []api.Lsa{}}
	refused(t, "the greatest seen", api.OK, p)
	for _, n := range beyond {
		refused(t, "seen", api.ErrRange, api.Packet{Kind: api.PktHello, From: 1, Seen: n})
	}
	p.Lsas = []api.Lsa{aRouter()}
	refused(t, "an announcement", api.ErrRange, p)
	refused(t, "one that is not right", api.ErrRange, api.Packet{Kind: api.PktHello, From: 1, Lsas: make([]api.Lsa, 1)})
}

func TestF6Lsas(t *testing.T) {
	for _, kind := range []int{api.PktUpdate, api.PktAck} {
		p := api.Packet{Kind: kind, From: 1}
		refused(t, "none", api.ErrRange, p)
		for i := range 20 {
			p.Lsas = append(p.Lsas, anExternal())
			want := api.OK
			if i >= api.MaxLsas {
				want = api.ErrRange
			}
			refused(t, "how many", want, p)
		}
		p.Lsas = p.Lsas[:16]
		for _, n := range append([]int{1, 1<<32 - 1}, beyond...) {
			q := p
			q.Seen = n
			refused(t, "seen", api.ErrRange, q)
		}
		for i := range p.Lsas {
			q := p
			q.Lsas = slices.Clone(p.Lsas)
			q.Lsas[i].Age++
			refused(t, "one that is not right", api.ErrRange, q)
		}
		p.Lsas = make([]api.Lsa, 256+1)
		for i := range p.Lsas {
			p.Lsas[i] = anExternal()
		}
		refused(t, "more than a byte counts", api.ErrRange, p)
	}
}

// asLong gives an update of so many bytes; there is one of each length from 3700 on.
func asLong(size int) api.Packet {
	rest := size - 20 - 8*28
	links := rest % 7
	for rest-8*links > 7*8*64 {
		links += 7
	}
	stubs := (rest - 8*links) / 7
	p := api.Packet{Kind: api.PktUpdate, From: 1}
	for range 8 {
		p.Lsas = append(p.Lsas, manyItems(min(links, 64), min(stubs, 64)))
		links, stubs = links-min(links, 64), stubs-min(stubs, 64)
	}
	return p
}

func TestF6F7Long(t *testing.T) {
	for _, size := range []int{3700, 4090, 4091, 4092, 4093, 4094, 4095, 4096} {
		p := asLong(size)
		b := encoded(t, p)
		if len(b) != size {
			t.Fatalf("%d bytes, must be %d", len(b), size)
		}
		if q, e := lsa.Decode(b); e != api.OK || !same(p, q) {
			t.Errorf("Decode of %d bytes: %v", size, e)
		}
	}
	for _, size := range []int{4097, 4098, 4103, 4104} {
		p := asLong(size)
		refused(t, "too long", api.ErrLong, p)
		unread(t, "too long", api.ErrLong, model(p))
		p.Lsas[7].Cost = 1
		refused(t, "too long, and not right", api.ErrRange, p)
	}
	refused(t, "as long as can be", api.ErrLong, update(slices.Repeat([]api.Lsa{manyItems(64, 64)}, 16)...))
	refused(t, "one more", api.ErrRange, update(slices.Repeat([]api.Lsa{manyItems(64, 64)}, 17)...))
	unread(t, "no packet at all", api.ErrLong, make([]byte, 4097))
	unread(t, "far too long", api.ErrLong, make([]byte, 1<<20))
	around := append(encoded(t, api.Packet{Kind: api.PktHello, From: 1}), make([]byte, 65536)...)
	unread(t, "the told length comes round", api.ErrLong, around)
}

func TestF7Frame(t *testing.T) {
	b := encoded(t, api.Packet{Kind: api.PktHello, From: 1})
	for n := range len(b) {
		unread(t, "too short", api.ErrForm, b[:n])
	}
	for n := 6; n < 16; n++ {
		unread(t, "sealed, but too short", api.ErrForm, seal(b[:n]))
	}
	for i := range 16 {
		c := slices.Clone(b[:16])
		c[i/8] ^= 1 << (i % 8)
		unread(t, "the mark", api.ErrForm, seal(c))
	}
	for _, n := range []int{0, 16, 19, 21, 20 + 256, 65535} {
		c := slices.Clone(b[:16])
		binary.BigEndian.PutUint16(c[4:], uint16(n))
		unread(t, "the length", api.ErrForm, binary.BigEndian.AppendUint32(c, sum(c)))
	}
	unread(t, "a byte more", api.ErrForm, append(slices.Clone(b), 0))
	unread(t, "a byte ahead", api.ErrForm, append([]byte{0}, b...))
	for i := range 32 {
		c := slices.Clone(b)
		c[16+i/8] ^= 1 << (i % 8)
		unread(t, "the check", api.ErrSum, c)
		c[2] = 9
		unread(t, "the check ahead of the kind", api.ErrSum, c)
		c[0] = 0
		unread(t, "the mark ahead of the check", api.ErrForm, c)
	}
}

func TestF7Kind(t *testing.T) {
	for kind := range 256 {
		want := api.ErrKind
		if kind >= 1 && kind <= 3 {
			want = api.ErrForm
		}
		unread(t, "kind, ahead of the announcements", want, seal(lay(api.Packet{Kind: kind, From: 0}, 1)))
		unread(t, "kind, ahead of what is left", want, seal(append(lay(api.Packet{Kind: kind, From: 0}, 0), 7)))
	}
}

func TestF7Announcements(t *testing.T) {
	p := update(aRouter(), aSummary(), aRouter())
	whole := lay(p, 3)
	for n := 16; n < len(whole); n++ {
		unread(t, "cut off", api.ErrForm, seal(whole[:n]))
	}
	for count := range 256 {
		if count != 3 {
			unread(t, "the count", api.ErrForm, seal(lay(p, count)))
		}
	}
	for more := 1; more < 300; more++ {
		unread(t, "something behind", api.ErrForm, seal(append(slices.Clone(whole), make([]byte, more)...)))
	}
	for _, i := range []int{16 + 1, 16 + 2} {
		for n := range 256 {
			c := slices.Clone(whole)
			if c[i] != byte(n) {
				c[i] = byte(n)
				if _, e := lsa.Decode(seal(c)); e == api.OK {
					t.Errorf("the lists of the first one: byte %d as %d was taken", i, n)
				}
			}
		}
	}
	p.From = 0
	unread(t, "form ahead of range", api.ErrForm, seal(lay(p, 4)))
	unread(t, "a hello with something behind", api.ErrForm, seal(append(lay(api.Packet{Kind: api.PktHello, From: 0}, 0), make([]byte, 28)...)))
}

func TestF7Range(t *testing.T) {
	one := []api.Lsa{anExternal()}
	for _, p := range []api.Packet{
		{Kind: api.PktHello, From: 0},
		{Kind: api.PktHello, From: 1, Area: 65535},
		{Kind: api.PktHello, From: 1, Lsas: one},
		{Kind: api.PktUpdate, From: 0, Lsas: one},
		{Kind: api.PktUpdate, From: 1, Area: 65535, Lsas: one},
		{Kind: api.PktUpdate, From: 1, Seen: 1, Lsas: one},
		{Kind: api.PktUpdate, From: 1},
		{Kind: api.PktAck, From: 1},
		{Kind: api.PktAck, From: 1, Seen: 1 << 31, Lsas: one},
		{Kind: api.PktAck, From: 1, Lsas: slices.Repeat(one, 17)},
		{Kind: api.PktAck, From: 1, Lsas: slices.Repeat(one, 145)},
		{Kind: api.PktAck, From: 1, Lsas: []api.Lsa{anExternal(), {}}},
		update(manyItems(65, 0)), update(manyItems(255, 255)), update(manyItems(0, 65)),
	} {
		unread(t, "range", api.ErrRange, model(p))
		refused(t, "range", api.ErrRange, p)
	}
	for _, f := range []func(*api.Lsa){
		func(x *api.Lsa) { x.Kind = 0 },
		func(x *api.Lsa) { x.Kind = 255 },
		func(x *api.Lsa) { x.Area = 65535 },
		func(x *api.Lsa) { x.Age = 121 },
		func(x *api.Lsa) { x.Age = 65535 },
		func(x *api.Lsa) { x.Origin = 0 },
		func(x *api.Lsa) { x.Seq = 0 },
		func(x *api.Lsa) { x.Seq = 1<<30 + 1 },
		func(x *api.Lsa) { x.Seq = 1<<32 - 1 },
		func(x *api.Lsa) { x.Prefix = at(1, 0) },
		func(x *api.Lsa) { x.Prefix = at(0, 255) },
		func(x *api.Lsa) { x.Cost = 1 },
		func(x *api.Lsa) { x.Tag = 1 },
		func(x *api.Lsa) { x.Links[0].To = 0 },
		func(x *api.Lsa) { x.Links[1].To = x.Origin },
		func(x *api.Lsa) { x.Links[0].Cost = 0 },
		func(x *api.Lsa) { x.Links[1].Link = 0 },
		func(x *api.Lsa) { x.Stubs[0].Prefix = at(0, 33) },
		func(x *api.Lsa) { x.Stubs[1].Prefix = at(1, 31) },
		func(x *api.Lsa) { x.Stubs[1].Prefix = x.Stubs[0].Prefix },
	} {
		unread(t, "one that is not right", api.ErrRange, model(update(aSummary(), turn(aRouter(), f))))
	}
}

// TestF7Again turns bytes and mends the check: whatever is still taken must be encoded to the same bytes again.
func TestF7Again(t *testing.T) {
	r := rand.New(rand.NewSource(7))
	taken := 0
	for range 20000 {
		b := lay(drawPacket(r), 0)
		if len(b) > 400 {
			continue
		}
		b[3] = byte(r.Intn(4))
		for range r.Intn(4) {
			b[r.Intn(len(b))] ^= 1 << r.Intn(8)
		}
		b = seal(b)
		p, e := lsa.Decode(b)
		if e != api.OK {
			unread(t, "refused", e, b)
			continue
		}
		taken++
		if again, e := lsa.Encode(p); e != api.OK || !bytes.Equal(again, b) {
			t.Fatalf("%x\nagain:\n%x %v", b, again, e)
		}
	}
	if taken < 1000 {
		t.Errorf("only %d were taken", taken)
	}
}

// bend turns the bits of a pattern, whose highest stands at the bit i of all.
func bend(b []byte, i int, pattern uint32) []byte {
	c := slices.Clone(b)
	for k := range 32 {
		if pattern>>(31-k)&1 == 1 && i+k < 8*len(c) {
			c[(i+k)/8] ^= 0x80 >> ((i + k) % 8)
		}
	}
	return c
}

// bursts are patterns whose highest bit is turned: short ones, long ones, and those of the check itself.
func bursts(r *rand.Rand) []uint32 {
	out := []uint32{1 << 31, 0xffffffff, 1<<31 | 1, 0x04c11db7 << 5, 0x82608edb, 0x57460000 << 1}
	for range 20 {
		out = append(out, r.Uint32()|1<<31, (r.Uint32()|1<<31)&^(1<<r.Intn(32)-1))
	}
	return out
}

func bent(t *testing.T, b []byte, i int, pattern uint32) {
	t.Helper()
	if p, e := lsa.Decode(bend(b, i, pattern)); e == api.OK || !same(p, api.Packet{}) {
		t.Fatalf("%x, bent by %x at %d, was taken", b, pattern, i)
	}
}

func TestF7Bent(t *testing.T) {
	r := rand.New(rand.NewSource(8))
	for _, p := range []api.Packet{{Kind: api.PktHello, From: 1}, {Kind: api.PktHello, From: 1<<32 - 1, Area: 65534, Seen: 2}, update(aRouter(), aSummary())} {
		b := encoded(t, p)
		for i := range 8 * len(b) {
			for _, x := range bursts(r) {
				bent(t, b, i, x)
			}
		}
	}
	for range 20 {
		b := encoded(t, drawPacket(r))
		for _, x := range bursts(r) {
			bent(t, b, r.Intn(8*len(b)), x)
		}
	}
	long := encoded(t, asLong(4096))
	for i := range 64 {
		bent(t, long, i, bursts(r)[i%40])
		bent(t, long, 8*4096-1-i, bursts(r)[i%40])
	}
}

func TestP1AnyBytes(t *testing.T) {
	r := rand.New(rand.NewSource(9))
	for range 20000 {
		b := make([]byte, 16+r.Intn(200))
		for i := range b {
			b[i] = byte(edge(r, 0, 255))
		}
		b[0], b[1], b[2], b[3] = 0x57, 0x46, byte(r.Intn(5)), byte(r.Intn(5))
		b = seal(b)
		if p, e := lsa.Decode(b); e == api.OK {
			if again, f := lsa.Encode(p); f != api.OK || !bytes.Equal(b, again) {
				t.Fatalf("%x was taken as %+v", b, p)
			}
		}
	}
	for _, n := range []int{math.MinInt, -1, 0, 256, math.MaxInt} {
		x := api.Lsa{Kind: n, Area: n, Origin: n, Prefix: at(uint32(n), n), Seq: n, Age: n, Cost: n, Tag: n, Links: []api.LsLink{{To: n, Cost: n, Link: n}}, Stubs: []api.LsStub{{Prefix: at(uint32(n), n), Cost: n}}}
		right(t, "all wrong", false, x)
		refused(t, "all wrong", api.ErrKind, api.Packet{Kind: n, From: n, Area: n, Seen: n, Lsas: []api.Lsa{x}})
		refused(t, "all but the kind wrong", api.ErrRange, api.Packet{Kind: api.PktAck, From: n, Area: n, Seen: n, Lsas: []api.Lsa{x}})
	}
}

func TestP2OnlyRead(t *testing.T) {
	long := aRouter()
	long.Links = append(make([]api.LsLink, 0, 9), long.Links...)
	long.Stubs = append(make([]api.LsStub, 0, 9), long.Stubs...)
	room := append(make([]api.Lsa, 0, 9), long, aSummary(), anExternal())
	p := update(room...)
	p.Lsas = room
	all := func() string {
		return fmt.Sprintf("%+v %+v %+v %+v", p, room[:9], long.Links[:9], long.Stubs[:9])
	}
	ahead := all()
	b := encoded(t, p)
	for _, x := range room {
		lsa.Right(x)
		lsa.Order(x, long)
		lsa.Newer(x, long)
	}
	wide := append(make([]byte, 0, 2*len(b)), b...)
	lsa.Decode(wide)
	lsa.Decode(wide[:len(wide)-1])
	if all() != ahead || !bytes.Equal(wide, b) || !bytes.Equal(wide[len(b):cap(wide)], make([]byte, len(b))) {
		t.Errorf("what was handed in has changed: %s", all())
	}
}

func TestP2NewMemory(t *testing.T) {
	p := update(aRouter(), aRouter(), aSummary())
	b, c := encoded(t, p), encoded(t, p)
	want := slices.Clone(c)
	clear(b[:cap(b)])
	if !bytes.Equal(c, want) {
		t.Errorf("two answers of Encode share memory")
	}
	q, _ := lsa.Decode(c)
	other, _ := lsa.Decode(c)
	clear(c)
	if !same(q, p) {
		t.Errorf("the answer of Decode hangs on the bytes: %+v", q)
	}
	first := &q.Lsas[0]
	first.Links = append(first.Links, api.LsLink{To: 77}, api.LsLink{To: 78})
	first.Stubs = append(first.Stubs, api.LsStub{Cost: 77}, api.LsStub{Cost: 78})
	first.Links[0].To, first.Stubs[0].Cost = 66, 66
	q.Lsas[2].Links = append(q.Lsas[2].Links, api.LsLink{To: 79})
	q.Lsas = append(q.Lsas, api.Lsa{Origin: 5})
	if !same(update(q.Lsas[1]), update(p.Lsas[1])) || !same(other, p) {
		t.Errorf("lists of answers share memory: %+v %+v", q, other)
	}
}

// TestP3OnNothingElse asks the same in another order, with refused calls between.
func TestP3OnNothingElse(t *testing.T) {
	r := rand.New(rand.NewSource(10))
	var packets []api.Packet
	var all [][]byte
	for range 100 {
		p := drawPacket(r)
		packets, all = append(packets, p), append(all, encoded(t, p))
	}
	for _, i := range r.Perm(len(packets)) {
		lsa.Decode(all[i][1:])
		lsa.Encode(api.Packet{Kind: 9})
		q, e := lsa.Decode(all[i])
		if e != api.OK || !same(q, packets[i]) || !bytes.Equal(encoded(t, packets[i]), all[i]) {
			t.Errorf("another answer for %+v", packets[i])
		}
	}
}
