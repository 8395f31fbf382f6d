package pfx_test

import (
	"math"
	"math/rand"
	"testing"

	"wayfinder/api"
	"wayfinder/pfx"
)

func at(a uint32, n int) api.Prefix { return api.Prefix{Addr: a, Len: n} }

// wrong: prefixes that are not valid, one for each way to be so.
var wrong = []api.Prefix{
	at(1, 0), at(1<<31, 0), at(0x0a000000, 4), at(0x0a000001, 8), at(0xffffffff, 31),
	at(0, -1), at(0, 33), at(0x0a000000, 40), at(0, 64), at(0, math.MinInt), at(0, math.MaxInt),
	at(0xffffffff, -1), at(0xffffffff, 33),
}

// right: valid prefixes, the edges among them.
var right = []api.Prefix{
	at(0, 0), at(0, 1), at(1<<31, 1), at(0, 31), at(0, 32), at(1, 32),
	at(0x0a000000, 8), at(0x0a000000, 9), at(0x0a800000, 9), at(0x0a400000, 10),
	at(0xfffffffe, 31), at(0xfffffffe, 32), at(0xffffffff, 32),
}

func TestA3Valid(t *testing.T) {
	for _, p := range right {
		if !pfx.Valid(p) {
			t.Errorf("%v must be valid", p)
		}
	}
	for _, p := range wrong {
		if pfx.Valid(p) {
			t.Errorf("%v must not be valid", p)
		}
	}
	for n := 0; n <= 32; n++ {
		size := uint64(1) << (32 - n)
		last := uint32(1<<32 - size)
		if !pfx.Valid(at(last, n)) {
			t.Errorf("%v must be valid", at(last, n))
		}
		if n < 32 && (pfx.Valid(at(last|1, n)) || pfx.Valid(at(last|uint32(size/2), n))) {
			t.Errorf("a bit behind the first %d must not be valid", n)
		}
	}
}

func TestA3Has(t *testing.T) {
	for _, p := range right {
		first, last := uint64(p.Addr), uint64(p.Addr)+1<<(32-p.Len)-1
		if !pfx.Has(p, uint32(first)) || !pfx.Has(p, uint32(last)) {
			t.Errorf("%v must have its first and its last address", p)
		}
		if first > 0 && pfx.Has(p, uint32(first-1)) {
			t.Errorf("%v must not have the address ahead of it", p)
		}
		if last < math.MaxUint32 && pfx.Has(p, uint32(last+1)) {
			t.Errorf("%v must not have the address behind it", p)
		}
	}
	for _, p := range wrong {
		if pfx.Has(p, p.Addr) || pfx.Has(p, 0) {
			t.Errorf("%v is not valid, and must have no address", p)
		}
	}
}

func TestA3Covers(t *testing.T) {
	for _, p := range right {
		for _, q := range right {
			from, to := uint64(p.Addr), uint64(p.Addr)+1<<(32-p.Len)
			want := from <= uint64(q.Addr) && uint64(q.Addr)+1<<(32-q.Len) <= to
			if pfx.Covers(p, q) != want {
				t.Errorf("Covers %v %v must be %v", p, q, want)
			}
		}
		for _, q := range wrong {
			if pfx.Covers(p, q) || pfx.Covers(q, p) {
				t.Errorf("Covers %v %v, or the other way round: one is not valid", p, q)
			}
		}
	}
	for _, p := range wrong {
		if pfx.Covers(p, p) {
			t.Errorf("%v is not valid, and must not cover itself", p)
		}
	}
}

func TestA3Order(t *testing.T) {
	for _, c := range []struct {
		p, q api.Prefix
		want int
	}{
		{at(0x0a000000, 8), at(0x0a000000, 8), 0},
		{at(0x0a000000, 8), at(0x0a000000, 9), -1},
		{at(0x0a000000, 8), at(0x0a400000, 10), -1},
		{at(0x0a400000, 10), at(0x0a800000, 9), -1},
		{at(0, 32), at(1<<31, 1), -1},
		{at(0x7fffffff, 32), at(0x80000000, 1), -1},
		// Order is one of any two, valid or not.
		{at(5, -3), at(5, 77), -1},
		{at(5, math.MinInt), at(5, math.MaxInt), -1},
		{at(4, 99), at(5, -99), -1},
		{at(7, 40), at(7, 40), 0},
	} {
		if got := pfx.Order(c.p, c.q); got != c.want {
			t.Errorf("Order %v %v: %d, must be %d", c.p, c.q, got, c.want)
		}
		if got := pfx.Order(c.q, c.p); got != -c.want {
			t.Errorf("Order %v %v: %d, must be %d", c.q, c.p, got, -c.want)
		}
	}
}

// randomPrefix draws a valid prefix from few, so that many are near each other.
func randomPrefix(r *rand.Rand) api.Prefix {
	n := r.Intn(33)
	a := r.Uint32() & 0xc0000003
	if n == 0 {
		return at(0, 0)
	}
	return at(a>>(32-n)<<(32-n), n)
}
