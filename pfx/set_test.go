package pfx_test

import (
	"math/rand"
	"slices"
	"testing"

	"wayfinder/api"
	"wayfinder/pfx"
)

// field is a piece of the addresses, cut into 64 cells of one size: small enough that a set can be held against what it must be, cell by cell.
type field struct {
	base uint32
	len  int
}

// fields: all addresses, the first few, the last few, and some between.
var fields = []field{{0, 0}, {0, 26}, {0xffffffc0, 26}, {0x0a000000, 8}, {0x7fffff80, 25}}

type cells [64]bool

// draw gives some prefixes of the field, and now and then a wrong one.
func (f field) draw(r *rand.Rand, most int) []api.Prefix {
	var out []api.Prefix
	for range r.Intn(most + 1) {
		if r.Intn(6) == 0 {
			out = append(out, wrong[r.Intn(len(wrong))])
			continue
		}
		deep := 1 + r.Intn(6)
		if r.Intn(20) == 0 {
			deep = 0
		}
		n := f.len + deep
		out = append(out, at(f.base|uint32(uint64(r.Intn(1<<deep))<<(32-n)), n))
	}
	return out
}

// cells answers which cells the valid prefixes of a list hold.
func (f field) cells(list []api.Prefix) cells {
	var out cells
	for i := range out {
		a := f.base + uint32(uint64(i)<<(26-f.len))
		for _, p := range list {
			out[i] = out[i] || pfx.Has(p, a)
		}
	}
	return out
}

// lean says whether a list is valid, in Order and as short as can be: no two prefixes overlap, and no two are the halves of one. Only the shortest list is so.
func lean(list []api.Prefix) bool {
	for i, p := range list {
		if !pfx.Valid(p) || i > 0 && pfx.Order(list[i-1], p) != -1 {
			return false
		}
		for _, q := range list[:i] {
			halves := p.Len == q.Len && p.Len > 0 && p.Addr^q.Addr == 1<<(32-p.Len)
			if halves || pfx.Covers(q, p) {
				return false
			}
		}
	}
	return true
}

func (f field) check(t *testing.T, what string, got []api.Prefix, want func(i int) bool) {
	t.Helper()
	if !lean(got) {
		t.Fatalf("%s: %v is not the shortest list in Order", what, got)
	}
	for _, p := range got {
		if !pfx.Covers(at(f.base, f.len), p) || p.Len > f.len+6 {
			t.Fatalf("%s: %v lies beyond what was handed in", what, p)
		}
	}
	for i, has := range f.cells(got) {
		if has != want(i) {
			t.Fatalf("%s: cell %d of %v: %v, must be %v", what, i, f, has, want(i))
		}
	}
}

func TestA4A5AreSets(t *testing.T) {
	r := rand.New(rand.NewSource(3))
	for _, f := range fields {
		for range 3000 {
			p, q := f.draw(r, 14), f.draw(r, 14)
			inP, inQ := f.cells(p), f.cells(q)
			f.check(t, "A4 Cover of one", pfx.Cover(p), func(i int) bool { return inP[i] })
			f.check(t, "A4 Cover of two", pfx.Cover(p, q), func(i int) bool { return inP[i] || inQ[i] })
			f.check(t, "A5 Without", pfx.Without(p, q), func(i int) bool { return inP[i] && !inQ[i] })
			f.check(t, "A5 Both", pfx.Both(p, q), func(i int) bool { return inP[i] && inQ[i] })
		}
	}
}

func same(t *testing.T, what string, got []api.Prefix, want ...api.Prefix) {
	t.Helper()
	if !slices.Equal(got, want) {
		t.Errorf("%s: %v, must be %v", what, got, want)
	}
}

func TestA4Cover(t *testing.T) {
	ten := at(0x0a000000, 8)
	same(t, "no list", pfx.Cover())
	same(t, "empty lists", pfx.Cover(nil, []api.Prefix{}, nil))
	same(t, "wrong ones alone", pfx.Cover(wrong))
	same(t, "one", pfx.Cover([]api.Prefix{ten}), ten)
	same(t, "one, often", pfx.Cover([]api.Prefix{ten, ten}, nil, []api.Prefix{ten}), ten)
	same(t, "halves in two lists, and a part", pfx.Cover([]api.Prefix{at(0x0a800000, 9), at(0x0a010000, 16)}, wrong, []api.Prefix{at(0x0a000000, 9)}), ten)
	same(t, "neighbours that are no halves", pfx.Cover([]api.Prefix{at(0x0a800000, 9), at(0x0b000000, 9)}), at(0x0a800000, 9), at(0x0b000000, 9))
	same(t, "all", pfx.Cover([]api.Prefix{at(0, 1), at(1<<31, 1)}), at(0, 0))
	same(t, "all, and parts", pfx.Cover([]api.Prefix{at(0xffffffff, 32), at(0, 0), at(0, 32), ten}), at(0, 0))
	same(t, "the first and the last", pfx.Cover([]api.Prefix{at(0xffffffff, 32), at(0, 32)}), at(0, 32), at(0xffffffff, 32))
	same(t, "the last two", pfx.Cover([]api.Prefix{at(0xffffffff, 32), at(0xfffffffe, 32)}), at(0xfffffffe, 31))
	var lists [][]api.Prefix
	for i := range 65536 {
		lists = append(lists, []api.Prefix{at(uint32(65535-i)<<16, 16)})
	}
	same(t, "very many lists", pfx.Cover(lists...), at(0, 0))
}

func TestA5Without(t *testing.T) {
	ten := []api.Prefix{at(0x0a000000, 8)}
	all := []api.Prefix{at(0, 0)}
	same(t, "of nothing", pfx.Without(nil, ten))
	same(t, "without nothing", pfx.Without(ten, nil), ten...)
	same(t, "without wrong ones", pfx.Without(ten, wrong), ten...)
	same(t, "of wrong ones", pfx.Without(wrong, ten))
	same(t, "without itself", pfx.Without(ten, ten))
	same(t, "without all", pfx.Without(ten, all))
	same(t, "all without all", pfx.Without(all, all))
	same(t, "a quarter less", pfx.Without(ten, []api.Prefix{at(0x0a000000, 10)}), at(0x0a400000, 10), at(0x0a800000, 9))
	same(t, "without what is elsewhere", pfx.Without(ten, []api.Prefix{at(0x0b000000, 8), at(0x09000000, 8)}), ten...)
	for _, a := range []uint32{0, 0x0a000001, 0x80000000, 0xffffffff} {
		got := pfx.Without(all, []api.Prefix{at(a, 32)})
		if len(got) != 32 || !lean(got) {
			t.Errorf("all without %d: %v, must be 32 prefixes", a, got)
		}
		same(t, "and with it again", pfx.Cover(got, []api.Prefix{at(a, 32)}), at(0, 0))
	}
}

func TestA5Both(t *testing.T) {
	ten := []api.Prefix{at(0x0a000000, 8)}
	all := []api.Prefix{at(0, 0)}
	part := at(0x0a400000, 10)
	same(t, "with nothing", pfx.Both(ten, nil))
	same(t, "of nothing", pfx.Both(nil, ten))
	same(t, "with wrong ones", pfx.Both(all, wrong))
	same(t, "with itself", pfx.Both(ten, ten), ten...)
	same(t, "with all", pfx.Both(all, ten), ten...)
	same(t, "all with all", pfx.Both(all, all), at(0, 0))
	same(t, "with a part", pfx.Both([]api.Prefix{ten[0], at(0x0b000000, 8)}, []api.Prefix{part, at(0x0b000000, 7), at(0, 99)}), part)
	same(t, "halves that become one", pfx.Both([]api.Prefix{at(0x0a800000, 9), at(0x0a000000, 9)}, []api.Prefix{at(0x0a000000, 7)}), ten...)
	same(t, "neighbours", pfx.Both(ten, []api.Prefix{at(0x0b000000, 8), at(0x09000000, 8)}))
}

func TestP2ListsAreOnlyRead(t *testing.T) {
	r := rand.New(rand.NewSource(4))
	for range 300 {
		f := fields[r.Intn(len(fields))]
		// Lists with room behind them, in which something stands.
		p, q := append(f.draw(r, 9), wrong...), append(f.draw(r, 9), right...)
		ownP, ownQ := slices.Clone(p), slices.Clone(q)
		p, q = p[:len(p)/2], q[:len(q)/2]
		asks := []func() []api.Prefix{
			func() []api.Prefix { return pfx.Cover(p) },
			func() []api.Prefix { return pfx.Cover(p, q, p) },
			func() []api.Prefix { return pfx.Without(p, q) },
			func() []api.Prefix { return pfx.Without(p, nil) },
			func() []api.Prefix { return pfx.Both(p, q) },
			func() []api.Prefix { return pfx.Both(p, p) },
		}
		for _, ask := range asks {
			first := ask()
			keep := slices.Clone(first)
			for i := range first {
				first[i] = at(7, 7)
			}
			if !slices.Equal(ask(), keep) {
				t.Fatal("an answer hangs on what was done with another one")
			}
			if !slices.Equal(p[:cap(p)][:len(ownP)], ownP) || !slices.Equal(q[:cap(q)][:len(ownQ)], ownQ) {
				t.Fatal("what was handed in has changed")
			}
		}
	}
}
