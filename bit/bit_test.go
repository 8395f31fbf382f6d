package bit_test

import (
	"testing"

	"wayfinder/api"
	"wayfinder/bit"
)

func TestAfter(t *testing.T) {
	for _, c := range []struct {
		a       uint32
		n, want int
	}{{0x80000000, 0, 1}, {0x7fffffff, 0, 0}, {0x40000000, 1, 1}, {1, 31, 1}, {0xfffffffe, 31, 0}, {0xffffffff, 32, 0}} {
		if is := bit.After(c.a, c.n); is != c.want {
			t.Errorf("After %x %d: %d, must be %d", c.a, c.n, is, c.want)
		}
	}
}

func TestShared(t *testing.T) {
	for _, c := range []struct{ p, q, want api.Prefix }{
		{api.Prefix{Addr: 0, Len: 1}, api.Prefix{Addr: 0x80000000, Len: 1}, api.Prefix{}},
		{api.Prefix{Addr: 0x0a000000, Len: 16}, api.Prefix{Addr: 0x0a400000, Len: 10}, api.Prefix{Addr: 0x0a000000, Len: 9}},
		{api.Prefix{Addr: 0xfffffffe, Len: 32}, api.Prefix{Addr: 0xffffffff, Len: 32}, api.Prefix{Addr: 0xfffffffe, Len: 31}},
	} {
		if is := bit.Shared(c.p, c.q); is != c.want {
			t.Errorf("Shared %v %v: %v, must be %v", c.p, c.q, is, c.want)
		}
	}
}
