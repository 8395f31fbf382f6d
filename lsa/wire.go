package lsa

import "wayfinder/wire"

// turns are the bits that are turned in the check when a 1 falls out of it.
const turns = 0x04c11db7

// check is the remainder over bytes by which a bent packet is known.
func check(b []byte) int {
	sum := ^uint32(0)
	for _, c := range b {
		for i := range 8 {
			taken := sum>>31 ^ uint32(c)>>(7-i)&1
			sum = sum<<1 ^ taken*turns
		}
	}
	return int(sum)
}

// writer puts numbers behind each other as bytes.
type writer struct {
	bytes []byte
}

// number puts n, of which size bytes hold all.
func (w *writer) number(size, n int) { w.bytes = wire.Put(w.bytes, size, n) }

// reader takes numbers off the front of bytes.
type reader struct {
	rest  []byte
	short bool // more was to be taken than was there
}

// number takes one of size bytes; it is 0 where they are not there.
func (r *reader) number(size int) int {
	if size > len(r.rest) {
		r.rest, r.short = nil, true
		return 0
	}
	n := wire.Number(r.rest[:size])
	r.rest = r.rest[size:]
	return n
}
