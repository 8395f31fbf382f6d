package fib_test

import (
	"maps"
	"math/rand"
	"slices"
	"testing"

	"wayfinder/api"
	"wayfinder/fib"
	"wayfinder/pfx"
)

func at(a uint32, n int) api.Prefix { return api.Prefix{Addr: a, Len: n} }

// wrong are prefixes that are not valid.
var wrong = []api.Prefix{at(1, 0), at(0, -1), at(0, 33), at(1, 31), at(0x80000000, 0), at(0x0a000001, 8), at(0, 1<<40), at(0, -1<<40)}

// book is what a table must be, in the plainest way.
type book map[api.Prefix]int

func (b book) find(a uint32) int {
	for n := 32; n >= 0; n-- {
		if way := b[cut(a, n)]; way != 0 {
			return way
		}
	}
	return 0
}

// cut is the prefix of length n that holds a.
func cut(a uint32, n int) api.Prefix { return at(uint32(uint64(a)>>(32-n)<<(32-n)), n) }

// rig is a table with its memory, a book of what must be in it, and the addresses that are asked at each moment.
type rig struct {
	t     *testing.T
	table *fib.Table
	mem   []uint32
	book  book
	most  int
	asks  []uint32
}

// edges gives the first and the last address of each prefix and what lies beside them.
func edges(l ...api.Prefix) []uint32 {
	var out []uint32
	for _, p := range l {
		last := p.Addr + uint32(uint64(1)<<(32-p.Len)-1)
		out = append(out, p.Addr-1, p.Addr, last, last+1)
	}
	return out
}

func newRig(t *testing.T, asks []uint32) *rig {
	return &rig{t: t, table: fib.New(), book: book{}, asks: asks}
}

func put(mem []uint32, w api.Write) []uint32 {
	for len(mem) <= w.At {
		mem = append(mem, 0)
	}
	mem[w.At] = w.Word
	return mem
}

// set, and drop, change the table and the book, and hold all that C1 to C5 say against what is written.
func (r *rig) set(p api.Prefix, way int) {
	r.t.Helper()
	then := maps.Clone(r.book)
	then[p] = way
	writes, e := r.table.Set(p, way)
	if e != api.OK || r.book[p] == way && len(writes) != 0 {
		r.t.Fatalf("C1 Set %v %d: %v %v", p, way, writes, e)
	}
	r.follow(p, then, writes)
}

func (r *rig) drop(p api.Prefix) {
	r.t.Helper()
	then := maps.Clone(r.book)
	delete(then, p)
	writes, e := r.table.Drop(p)
	if e != api.OK {
		r.t.Fatalf("C1 Drop %v: %v %v", p, writes, e)
	}
	r.follow(p, then, writes)
}

func (r *rig) follow(p api.Prefix, then book, writes []api.Write) {
	r.t.Helper()
	r.most = max(r.most, len(then))
	if len(writes) > 120 {
		r.t.Fatalf("C5 %v: %d writes", p, len(writes))
	}
	asks := slices.Concat(r.asks, edges(p))
	turned := make([]bool, len(asks))
	for _, w := range writes {
		if w.At < 0 || w.At >= 256+80*r.most {
			r.t.Fatalf("C5 %v: a write at %d, of at most %d prefixes", p, w.At, r.most)
		}
		r.mem = put(r.mem, w)
		r.moment(asks, turned, then)
	}
	r.book = then
	for _, a := range asks {
		if is := fib.Find(r.mem, a); is != then.find(a) {
			r.t.Fatalf("C2 behind the change of %v, %x: %d, must be %d", p, a, is, then.find(a))
		}
	}
}

// moment asks C3, and of C4 how many places there are.
func (r *rig) moment(asks []uint32, turned []bool, then book) {
	r.t.Helper()
	for i, a := range asks {
		is, old, anew := fib.Find(r.mem, a), r.book.find(a), then.find(a)
		if is != anew && (is != old || turned[i]) {
			r.t.Fatalf("C3 of %x: %d, must be %d or then %d", a, is, old, anew)
		}
		turned[i] = turned[i] || is == anew && is != old
		if l := fib.Touched(r.mem, a); len(l) > 72 {
			r.t.Fatalf("C4 of %x: %d places", a, len(l))
		}
	}
}

// hangs asks C4: that Find hangs on no place but those of Touched, which rise.
func hangs(t *testing.T, r *rand.Rand, mem []uint32, a uint32) {
	t.Helper()
	l, is := fib.Touched(mem, a), fib.Find(mem, a)
	other := make([]uint32, len(mem)+r.Intn(20))
	for i := range other {
		other[i] = r.Uint32() >> r.Intn(32)
	}
	for i, x := range l {
		if x < 0 || i > 0 && l[i-1] >= x {
			t.Fatalf("C4 of %x: %v does not rise", a, l)
		}
		if x < len(mem) {
			other[x] = mem[x]
		} else if x < len(other) {
			other[x] = 0
		}
	}
	if now := fib.Find(other, a); now != is {
		t.Fatalf("C4 of %x: %d, and with other words elsewhere %d", a, is, now)
	}
	if now := fib.Touched(other, a); !slices.Equal(now, l) {
		t.Fatalf("C4 of %x: %v, and with other words elsewhere %v", a, l, now)
	}
}

// random changes the rig so often, by prefixes that draw gives.
func (r *rig) random(d *rand.Rand, times, ways int, draw func() api.Prefix) {
	r.t.Helper()
	for range times {
		p := draw()
		if d.Intn(5) < 2 && len(r.book) > 0 {
			all := slices.SortedFunc(maps.Keys(r.book), pfx.Order)
			r.drop(all[d.Intn(len(all))])
		} else {
			r.set(p, 1+d.Intn(ways))
		}
		for range 4 {
			hangs(r.t, d, r.mem, edges(p)[d.Intn(4)])
		}
	}
}
