package lsa

import (
	"wayfinder/api"
)

// mark is how each packet begins.
const mark = 0x5746

// How many bytes the parts of a packet have: what stands ahead of the announcements, the check, and of an announcement what stands ahead of its lists, a link and a stub.
const (
	headSize  = 16
	checkSize = 4
	lsaSize   = 28
	linkSize  = 8
	stubSize  = 7
)

// Encode gives a packet's bytes.
func Encode(p api.Packet) ([]byte, api.Errno) {
	if !isKind(p.Kind) {
		return nil, api.ErrKind
	}
	if !inRange(p) {
		return nil, api.ErrRange
	}
	size := packetSize(p)
	if size > api.MaxPacket {
		return nil, api.ErrLong
	}
	w := writer{bytes: make([]byte, 0, size)}
	w.number(2, mark)
	w.number(1, p.Kind)
	w.number(1, len(p.Lsas))
	w.number(2, size)
	w.number(2, p.Area)
	w.number(4, p.From)
	w.number(4, p.Seen)
	for _, x := range p.Lsas {
		w.announcement(x)
	}
	w.number(checkSize, check(w.bytes))
	return w.bytes, api.OK
}

// Decode reads a packet.
func Decode(b []byte) (api.Packet, api.Errno) {
	if e := checkFrame(b); e != api.OK {
		return api.Packet{}, e
	}
	r := reader{rest: b[:len(b)-checkSize]}
	r.number(2) // the mark
	p := api.Packet{Kind: r.number(1)}
	if !isKind(p.Kind) {
		return api.Packet{}, api.ErrKind
	}
	count := r.number(1)
	r.number(2) // the length
	p.Area, p.From, p.Seen = r.number(2), r.number(4), r.number(4)
	for range count {
		p.Lsas = append(p.Lsas, r.announcement())
	}
	if r.short || len(r.rest) > 0 {
		return api.Packet{}, api.ErrForm
	}
	if !inRange(p) {
		return api.Packet{}, api.ErrRange
	}
	return p, api.OK
}

// checkFrame looks at what holds for the bytes of every packet, of whatever kind.
func checkFrame(b []byte) api.Errno {
	if len(b) > api.MaxPacket {
		return api.ErrLong
	}
	if len(b) < headSize+checkSize {
		return api.ErrForm
	}
	ahead, behind := reader{rest: b}, reader{rest: b[len(b)-checkSize:]}
	begin, _, length := ahead.number(2), ahead.number(2), ahead.number(2)
	if begin != mark || length != len(b) {
		return api.ErrForm
	}
	if behind.number(checkSize) != check(b[:len(b)-checkSize]) {
		return api.ErrSum
	}
	return api.OK
}

func isKind(n int) bool { return n == api.PktHello || n == api.PktUpdate || n == api.PktAck }

// inRange says whether a packet of one of the kinds has all else as it should be.
func inRange(p api.Packet) bool {
	if !isRouter(p.From) || !isArea(p.Area) {
		return false
	}
	if p.Kind == api.PktHello {
		return len(p.Lsas) == 0 && within(p.Seen, 0, max32)
	}
	if p.Seen != 0 || !within(len(p.Lsas), 1, api.MaxLsas) {
		return false
	}
	for _, x := range p.Lsas {
		if !Right(x) {
			return false
		}
	}
	return true
}

func packetSize(p api.Packet) int {
	size := headSize + checkSize
	for _, x := range p.Lsas {
		size += lsaSize + linkSize*len(x.Links) + stubSize*len(x.Stubs)
	}
	return size
}

func (w *writer) announcement(x api.Lsa) {
	w.number(1, x.Kind)
	w.number(1, len(x.Links))
	w.number(1, len(x.Stubs))
	w.number(1, x.Prefix.Len)
	w.number(2, x.Area)
	w.number(2, x.Age)
	w.number(4, x.Origin)
	w.number(4, x.Seq)
	w.number(4, int(x.Prefix.Addr))
	w.number(4, x.Cost)
	w.number(4, x.Tag)
	for _, l := range x.Links {
		w.number(4, l.To)
		w.number(2, l.Cost)
		w.number(2, l.Link)
	}
	for _, s := range x.Stubs {
		w.number(4, int(s.Prefix.Addr))
		w.number(1, s.Prefix.Len)
		w.number(2, s.Cost)
	}
}

func (r *reader) announcement() api.Lsa {
	x := api.Lsa{Kind: r.number(1)}
	links, stubs := r.number(1), r.number(1)
	x.Prefix.Len = r.number(1)
	x.Area, x.Age = r.number(2), r.number(2)
	x.Origin, x.Seq = r.number(4), r.number(4)
	x.Prefix.Addr = uint32(r.number(4))
	x.Cost, x.Tag = r.number(4), r.number(4)
	for range links {
		x.Links = append(x.Links, api.LsLink{To: r.number(4), Cost: r.number(2), Link: r.number(2)})
	}
	for range stubs {
		x.Stubs = append(x.Stubs, r.stub())
	}
	return x
}

func (r *reader) stub() api.LsStub {
	p := api.Prefix{Addr: uint32(r.number(4)), Len: r.number(1)}
	return api.LsStub{Prefix: p, Cost: r.number(2)}
}
