package fib_test

import (
	"math/rand"
	"slices"
	"testing"

	"wayfinder/api"
	"wayfinder/fib"
)

func TestC1SetRefuses(t *testing.T) {
	table := fib.New()
	for _, p := range wrong {
		for _, way := range []int{1, 0} {
			if l, e := table.Set(p, way); l != nil || e != api.ErrBits {
				t.Errorf("Set %v %d: %v %v", p, way, l, e)
			}
		}
	}
	for _, way := range []int{0, -1, 65536, -65535, 65537, 1 << 32, 1<<32 + 1, -1 << 63, 1<<63 - 1} {
		if l, e := table.Set(at(0, 0), way); l != nil || e != api.ErrRange {
			t.Errorf("Set %d: %v %v", way, l, e)
		}
	}
	if l, e := table.Drop(at(0, 0)); l != nil || e != api.ErrNone {
		t.Errorf("what was refused is there: %v %v", l, e)
	}
}

func TestC1DropRefuses(t *testing.T) {
	table := fib.New()
	none := func(p api.Prefix) {
		t.Helper()
		if l, e := table.Drop(p); l != nil || e != api.ErrNone {
			t.Errorf("Drop %v: %v %v", p, l, e)
		}
	}
	none(at(0, 0))
	// Between these two lies 10.0.0.0/9, where they part, and which leads nowhere itself.
	table.Set(at(0x0a000000, 16), 1)
	table.Set(at(0x0a400000, 16), 2)
	for _, p := range wrong {
		if l, e := table.Drop(p); l != nil || e != api.ErrBits {
			t.Errorf("Drop %v: %v %v", p, l, e)
		}
	}
	for _, p := range []api.Prefix{at(0, 0), at(0x0a000000, 8), at(0x0a000000, 9), at(0x0a000000, 15), at(0x0a000000, 17), at(0x0a010000, 16), at(0x0b000000, 16), at(0x0a000000, 32)} {
		none(p)
	}
	if _, e := table.Drop(at(0x0a000000, 16)); e != api.OK {
		t.Error(e)
	}
	none(at(0x0a000000, 16))
	none(at(0x0a000000, 9))
}

func TestC1Again(t *testing.T) {
	r := newRig(t, nil)
	l := []api.Prefix{at(0, 0), at(0x80000000, 1), at(0x80000000, 32), at(0xc0000000, 2), at(0xc0000001, 32), at(0xc0000002, 32)}
	for i, p := range l {
		r.set(p, i+1)
	}
	for i, p := range l {
		if w, e := r.table.Set(p, i+1); len(w) != 0 || e != api.OK {
			t.Errorf("Set %v once more: %v %v", p, w, e)
		}
	}
	for i, p := range l {
		r.set(p, 65535-i)
		r.drop(p)
		r.set(p, 65535-i)
	}
}

func TestC2Find(t *testing.T) {
	for _, a := range []uint32{0, 7, 1 << 31, 1<<32 - 1} {
		if is := fib.Find(nil, a); is != 0 {
			t.Errorf("over nil: %d", is)
		}
	}
	r := newRig(t, nil)
	ask := func(a uint32, want int) {
		t.Helper()
		if is := fib.Find(r.mem, a); is != want {
			t.Errorf("%x: %d, must be %d", a, is, want)
		}
	}
	r.set(at(0x0a000000, 8), 65535)
	ask(0x0a400001, 65535)
	ask(0x0b000000, 0)
	r.set(at(0x0a400000, 10), 2)
	ask(0x0a400001, 2)
	ask(0x0a000001, 65535)
	r.set(at(0, 0), 1)
	ask(0x0b000000, 1)
	r.set(at(0xffffffff, 32), 4)
	ask(0xffffffff, 4)
	ask(0xfffffffe, 1)
	r.drop(at(0x0a000000, 8))
	ask(0x0a000001, 1)
	r.drop(at(0, 0))
	ask(0x0a000001, 0)
	ask(0x0a7fffff, 2)
}

// TestC3Places: each kind of place that a prefix may come to or be dropped from, whatever else is there: a few prefixes are set in all orders, and then dropped in all orders.
func TestC3Places(t *testing.T) {
	for _, l := range [][]api.Prefix{
		{at(0, 0), at(0, 1), at(0x80000000, 1), at(0, 32)},
		{at(0, 32), at(1, 32), at(2, 32), at(0, 31)},
		{at(0x0a000000, 16), at(0x0a400000, 16), at(0x0a000000, 9), at(0x0a000000, 8)},
		{at(0xf0000000, 4), at(0xf8000000, 5), at(0xfffffff0, 28), at(0xffffffff, 32)},
	} {
		orders := orders(len(l))
		for _, set := range orders {
			for _, drop := range orders {
				r := newRig(t, edges(l...))
				for _, i := range set {
					r.set(l[i], i+1)
				}
				r.set(l[set[0]], 9)
				for _, i := range drop {
					r.drop(l[i])
				}
			}
		}
	}
}

// orders gives all orders of the numbers below n.
func orders(n int) [][]int {
	if n == 0 {
		return [][]int{nil}
	}
	var out [][]int
	for _, l := range orders(n - 1) {
		for i := range n {
			out = append(out, slices.Insert(slices.Clone(l), i, n-1))
		}
	}
	return out
}

// TestC3EveryAddress: prefixes of the first six bits, asked for every address that differs in these.
func TestC3EveryAddress(t *testing.T) {
	var asks []uint32
	for i := range 64 {
		asks = append(asks, uint32(i)<<26, uint32(i)<<26|0x03ffffff)
	}
	d := rand.New(rand.NewSource(3))
	r := newRig(t, asks)
	r.random(d, 1500, 3, func() api.Prefix { return cut(d.Uint32(), d.Intn(7)) })
}

// TestC3LastBits: the same of the last bits, where nodes are whole addresses.
func TestC3LastBits(t *testing.T) {
	var asks []uint32
	for i := range 80 {
		asks = append(asks, 0x0a000000-8+uint32(i))
	}
	d := rand.New(rand.NewSource(4))
	r := newRig(t, asks)
	r.random(d, 1500, 3, func() api.Prefix { return cut(0x0a000000+uint32(d.Intn(64)), 26+d.Intn(7)) })
}

func TestC3AllLengths(t *testing.T) {
	d := rand.New(rand.NewSource(5))
	var asks []uint32
	for range 40 {
		asks = append(asks, d.Uint32()&0xc0c00003, d.Uint32())
	}
	r := newRig(t, asks)
	r.random(d, 2000, 65535, func() api.Prefix { return cut(d.Uint32()&0xc0c00003, d.Intn(33)) })
}

// TestC4Deep: the longest ways down that there are, of one bit at each step or of more, with what parts at each.
func TestC4Deep(t *testing.T) {
	d := rand.New(rand.NewSource(6))
	for _, a := range []uint32{0, 0xffffffff, 0xaaaaaaaa, 0x12345678} {
		for step := 1; step <= 5; step++ {
			r := newRig(t, []uint32{a, a ^ 1})
			for n := 0; n <= 32; n += step {
				r.set(cut(a, n), n+1)
				if n > 0 {
					r.set(cut(a^1<<(32-n), n), 100+n)
				}
			}
			for n := 0; n <= 32; n++ {
				hangs(t, d, r.mem, a^uint32(uint64(1)<<n))
				hangs(t, d, r.mem, a)
			}
		}
	}
}

// TestC4Forks: nodes that lead nowhere themselves, all the way down.
func TestC4Forks(t *testing.T) {
	r := newRig(t, nil)
	for n := 1; n <= 32; n++ {
		r.set(cut(uint32(1)<<(32-n), n), n)
	}
	r.set(at(0, 32), 40)
	for n := 0; n <= 32; n++ {
		a := uint32(uint64(1) << (32 - n))
		if l := fib.Touched(r.mem, a); len(l) > 72 || len(l) == 0 {
			t.Errorf("%x: %d places", a, len(l))
		}
	}
}

// TestC4Nothing: what is found hangs on words even where there is no memory yet.
func TestC4Nothing(t *testing.T) {
	d := rand.New(rand.NewSource(7))
	r := newRig(t, nil)
	r.set(at(0, 0), 5)
	l := fib.Touched(nil, 9)
	for i, w := range r.mem {
		if !slices.Contains(l, i) {
			other := put(nil, api.Write{At: i, Word: w})
			if is := fib.Find(other, 9); is != 0 {
				t.Errorf("place %d is not told and read: %d", i, is)
			}
		}
	}
	for range 50 {
		hangs(t, d, nil, d.Uint32())
	}
}

// TestC5Places: places are used again, however often prefixes come and go.
func TestC5Places(t *testing.T) {
	r := newRig(t, nil)
	for i := range 3000 {
		p := cut(uint32(i)*0x9e3779b9, 1+i%32)
		q := cut(uint32(i)*0x7f4a7c15, 1+i*7%32)
		r.set(p, 1)
		r.set(q, 2)
		r.drop(p)
		if q != p {
			r.drop(q)
		}
	}
	if r.most != 2 || len(r.mem) > 256+80*2 {
		t.Errorf("%d words for %d prefixes", len(r.mem), r.most)
	}
}

// TestC5Leaves: what was needed only where others parted, or stood above others, goes with them.
func TestC5Leaves(t *testing.T) {
	r := newRig(t, nil)
	for i := range 500 {
		a := uint32(i) * 0x9e3779b9
		p, q := cut(a, 32), cut(a^1<<(i%5), 32)
		r.set(p, 1)
		r.set(q, 2)
		r.drop([]api.Prefix{p, q}[i%2])
		left := []api.Prefix{q, p}[i%2]
		for n := range 8 {
			r.set(cut(left.Addr, (i+n*4)%32), 3)
			r.drop(cut(left.Addr, (i+n*4)%32))
		}
		r.drop(left)
	}
	if r.most != 2 || len(r.mem) > 256+80*2 {
		t.Errorf("%d words for %d prefixes", len(r.mem), r.most)
	}
}

func TestC5Many(t *testing.T) {
	table, b := fib.New(), book{}
	var mem []uint32
	d := rand.New(rand.NewSource(8))
	for i := range 60000 {
		p, way := cut(d.Uint32(), 8+d.Intn(25)), 1+d.Intn(65535)
		writes, e := table.Set(p, way)
		b[p] = way
		if e != api.OK || len(writes) > 120 {
			t.Fatal(p, way, len(writes), e)
		}
		for _, w := range writes {
			if w.At < 0 || w.At >= 256+80*len(b) {
				t.Fatalf("%d prefixes, and a write at %d", len(b), w.At)
			}
			mem = put(mem, w)
		}
		if a := d.Uint32(); i%20 == 0 && fib.Find(mem, a) != b.find(a) {
			t.Fatalf("%x: %d, must be %d", a, fib.Find(mem, a), b.find(a))
		}
	}
}

func TestC6AnyMemory(t *testing.T) {
	d := rand.New(rand.NewSource(9))
	ask := func(mem []uint32) {
		for range 8 {
			hangs(t, d, mem, d.Uint32())
		}
		hangs(t, d, mem, 0)
		hangs(t, d, mem, 0xffffffff)
	}
	for _, w := range []uint32{0, 1, 2, 3, 1 << 16, 1<<16 + 1, 5 << 16, 32 << 16, 33 << 16, 1 << 31, 1<<32 - 1} {
		for _, n := range []int{1, 2, 5, 64, 4096} {
			ask(slices.Repeat([]uint32{w}, n))
		}
	}
	for range 3000 {
		mem := make([]uint32, d.Intn(200))
		for i := range mem {
			mem[i] = d.Uint32() >> (d.Intn(4) * 8)
		}
		ask(mem)
	}
}

// TestC6BentMemory: words of a table's memory, some of them bent, so that ways down lead back.
func TestC6BentMemory(t *testing.T) {
	d := rand.New(rand.NewSource(10))
	r := newRig(t, nil)
	for range 60 {
		r.set(cut(d.Uint32()&0xc0c00003, d.Intn(33)), 7)
	}
	for range 3000 {
		mem := slices.Clone(r.mem)
		for range 1 + d.Intn(20) {
			mem[d.Intn(len(mem))] = mem[d.Intn(len(mem))]
		}
		hangs(t, d, mem, d.Uint32()&0xc0c00003)
	}
}

func TestP1RefusedChangesNothing(t *testing.T) {
	d := rand.New(rand.NewSource(11))
	one, two := fib.New(), fib.New()
	for range 400 {
		p, way := cut(d.Uint32()&0xc0c00003, d.Intn(33)), 1+d.Intn(5)
		for _, q := range wrong {
			one.Set(q, way)
			one.Drop(q)
		}
		one.Set(p, 0)
		one.Set(p, 65536)
		var x, y []api.Write
		var e, f api.Errno
		if d.Intn(2) == 0 {
			x, e = one.Set(p, way)
			y, f = two.Set(p, way)
		} else {
			x, e = one.Drop(p)
			y, f = two.Drop(p)
		}
		if e != f || !slices.Equal(x, y) {
			t.Fatalf("of %v: %v %v, and where nothing was refused %v %v", p, x, e, y, f)
		}
	}
}

func TestP2OnlyRead(t *testing.T) {
	r := newRig(t, nil)
	r.set(at(0, 0), 1)
	r.set(at(0x0a000000, 8), 2)
	r.set(at(0x0a800000, 9), 3)
	room := append(slices.Clone(r.mem), 11, 12, 13, 14, 15, 16, 17, 18, 19)
	kept := slices.Clone(room)
	for n := range len(r.mem) {
		fib.Find(room[:n], 0x0a800001)
		l := fib.Touched(room[:n], 0x0a800001)
		again := fib.Touched(room[:n], 0x0a800001)
		l[0] = -1
		if again[0] == -1 {
			t.Errorf("two answers share memory: %v", again)
		}
	}
	if !slices.Equal(room, kept) {
		t.Error("the memory was changed")
	}
}

func TestP2WritesAreTheCallers(t *testing.T) {
	d := rand.New(rand.NewSource(12))
	one, two := fib.New(), fib.New()
	for range 300 {
		p := cut(d.Uint32()&0xc0c00003, d.Intn(33))
		writes, _ := one.Set(p, 1+d.Intn(3))
		clear(writes[:cap(writes)])
	}
	d = rand.New(rand.NewSource(12))
	for range 300 {
		p := cut(d.Uint32()&0xc0c00003, d.Intn(33))
		two.Set(p, 1+d.Intn(3))
	}
	x, e := one.Set(at(0xffffffff, 32), 9)
	y, f := two.Set(at(0xffffffff, 32), 9)
	if e != f || !slices.Equal(x, y) {
		t.Errorf("%v %v, and where the writes were left alone %v %v", x, e, y, f)
	}
}

func TestP3TwoTables(t *testing.T) {
	one, two := newRig(t, nil), newRig(t, nil)
	one.set(at(0, 0), 1)
	two.set(at(0, 0), 2)
	one.set(at(0x80000000, 1), 3)
	two.set(at(0, 1), 4)
	one.drop(at(0, 0))
	two.set(at(0x80000000, 32), 5)
	one.drop(at(0x80000000, 1))
	if is := fib.Find(two.mem, 0x80000000); is != 5 {
		t.Error(is)
	}
}
