package trie_test

import (
	"iter"
	"math"
	"slices"
	"testing"

	"wayfinder/api"
	"wayfinder/plain"
	"wayfinder/trie"
)

func at(a uint32, n int) api.Prefix { return api.Prefix{Addr: a, Len: n} }

// wrong: prefixes that are not valid.
var wrong = []api.Prefix{
	at(1, 0), at(1<<31, 0), at(0x0a000001, 8), at(0xffffffff, 31), at(0, -1), at(0, 33), at(0x0a000000, 40),
	at(0, math.MinInt), at(0, math.MaxInt), at(0xffffffff, -1), at(0xffffffff, 33),
}

var (
	all  = at(0, 0)
	ten  = at(0x0a000000, 8)
	part = at(0x0a400000, 10)
	host = at(0x0a400000, 32)
	last = at(0xffffffff, 32)
)

// filled answers a trie with the prefixes, whose values are their places from 1 on.
func filled(list ...api.Prefix) *plain.Trie {
	t := plain.NewTrie()
	for i, p := range list {
		t.Put(p, i+1)
	}
	return t
}

func items(seq iter.Seq2[api.Prefix, int]) []plain.Item {
	var out []plain.Item
	for p, v := range seq {
		out = append(out, plain.Item{At: p, Value: v})
	}
	return out
}

func same(t *testing.T, what string, got []plain.Item, want ...plain.Item) {
	t.Helper()
	if !slices.Equal(got, want) {
		t.Errorf("%s: %v, must be %v", what, got, want)
	}
}

func TestB1PutGetDrop(t *testing.T) {
	r := trie.New[string]()
	for i, step := range []struct {
		do    string
		p     api.Prefix
		v     string
		want  string
		had   bool
		count int
	}{
		{"get", all, "", "", false, 0},
		{"drop", all, "", "", false, 0},
		{"put", ten, "a", "", false, 1},
		{"put", ten, "b", "a", true, 1},
		{"get", ten, "", "b", true, 1},
		{"get", all, "", "", false, 1},
		{"get", part, "", "", false, 1},
		{"get", at(0x0a000000, 9), "", "", false, 1},
		{"put", last, "", "", false, 2}, // a zero value is a value
		{"get", last, "", "", true, 2},
		{"get", all, "", "", false, 2}, // the ways to the two part there
		{"drop", all, "", "", false, 2},
		{"put", all, "c", "", false, 3},
		{"put", all, "d", "c", true, 3},
		{"drop", all, "", "d", true, 2},
		{"drop", all, "", "", false, 2},
		{"get", all, "", "", false, 2},
		{"drop", ten, "", "b", true, 1},
		{"get", last, "", "", true, 1},
		{"drop", last, "", "", true, 0},
		{"drop", last, "", "", false, 0},
		{"put", last, "e", "", false, 1},
	} {
		var got string
		var had bool
		switch step.do {
		case "put":
			got, had = r.Put(step.p, step.v)
		case "drop":
			got, had = r.Drop(step.p)
		case "get":
			got, had = r.Get(step.p)
		}
		if got != step.want || had != step.had || r.Len() != step.count {
			t.Errorf("step %d, %s %v: %q %v, Len %d; must be %q %v, %d", i, step.do, step.p, got, had, r.Len(), step.want, step.had, step.count)
		}
	}
}

func TestB1NothingStandsUnderWrongOnes(t *testing.T) {
	for _, r := range []*plain.Trie{filled(), filled(all, ten, at(0x80000000, 1), last)} {
		count := r.Len()
		for _, p := range wrong {
			if old, had := r.Put(p, 9); old != 0 || had || r.Len() != count {
				t.Errorf("Put %v: %d %v, Len %d", p, old, had, r.Len())
			}
			if v, had := r.Get(p); v != 0 || had {
				t.Errorf("Get %v: %d %v", p, v, had)
			}
			if v, had := r.Drop(p); v != 0 || had || r.Len() != count {
				t.Errorf("Drop %v: %d %v, Len %d", p, v, had, r.Len())
			}
			same(t, "Under", items(r.Under(p)))
			same(t, "Over", items(r.Over(p)))
		}
		if got := items(r.All()); len(got) != count {
			t.Errorf("All: %v", got)
		}
	}
}

// Values that can't be compared, and such as are pointers, come out as they went in.
func TestB1ValuesAreNotLookedAt(t *testing.T) {
	f := trie.New[func() int]()
	f.Put(ten, func() int { return 5 })
	f.Put(all, nil)
	if v, had := f.Get(ten); !had || v() != 5 {
		t.Error("the function is lost")
	}
	if v, had := f.Get(all); !had || v != nil {
		t.Error("a value may be nil")
	}
	l := trie.New[[]int]()
	list := []int{1, 2}
	l.Put(ten, list)
	old, had := l.Put(ten, nil)
	if !had || &old[0] != &list[0] {
		t.Error("P2: a value is handed out as it is")
	}
}

func TestB2Match(t *testing.T) {
	r := filled(part, ten, all, host)
	for a, want := range map[uint32]plain.Item{
		0x0a400000: {At: host, Value: 4}, 0x0a400001: {At: part, Value: 1}, 0x0a7fffff: {At: part, Value: 1},
		0x0a3fffff: {At: ten, Value: 2}, 0x0a800000: {At: ten, Value: 2}, 0x0a000000: {At: ten, Value: 2}, 0x0affffff: {At: ten, Value: 2},
		0x09ffffff: {At: all, Value: 3}, 0x0b000000: {At: all, Value: 3}, 0: {At: all, Value: 3}, 0xffffffff: {At: all, Value: 3},
	} {
		if p, v, ok := r.Match(a); p != want.At || v != want.Value || !ok {
			t.Errorf("Match %08x: %v %d %v, must be %v true", a, p, v, ok, want)
		}
	}
	// The ways to these part at 0.0.0.0/0, which has no value itself.
	r = filled(ten, last)
	for _, a := range []uint32{0, 0x0b000000, 0x80000000, 0xfffffffe} {
		if p, v, ok := r.Match(a); p != all || v != 0 || ok {
			t.Errorf("Match %08x: %v %d %v, must be nothing", a, p, v, ok)
		}
	}
	if p, v, ok := r.Match(0xffffffff); p != last || v != 2 || !ok {
		t.Errorf("Match of the last: %v %d %v", p, v, ok)
	}
	if p, v, ok := plain.NewTrie().Match(7); p != all || v != 0 || ok {
		t.Errorf("Match in an empty trie: %v %d %v", p, v, ok)
	}
}

func TestB3Iterators(t *testing.T) {
	r := filled(last, part, all, host, ten, at(0x0b000000, 8))
	a, x, y, h, b, l := plain.Item{At: all, Value: 3}, plain.Item{At: ten, Value: 5}, plain.Item{At: part, Value: 2}, plain.Item{At: host, Value: 4}, plain.Item{At: at(0x0b000000, 8), Value: 6}, plain.Item{At: last, Value: 1}
	same(t, "All", items(r.All()), a, x, y, h, b, l)
	same(t, "Under all", items(r.Under(all)), a, x, y, h, b, l)
	same(t, "Under ten", items(r.Under(ten)), x, y, h)
	same(t, "Under one that has no value", items(r.Under(at(0x0a000000, 7))), x, y, h, b)
	same(t, "Under one below ten", items(r.Under(at(0x0a000000, 9))), y, h)
	same(t, "Under a host", items(r.Under(host)), h)
	same(t, "Under where nothing is", items(r.Under(at(0x0c000000, 8))))
	same(t, "Under another host", items(r.Under(at(0x0a400001, 32))))
	same(t, "Over all", items(r.Over(all)), a)
	same(t, "Over ten", items(r.Over(ten)), a, x)
	same(t, "Over a host", items(r.Over(host)), a, x, y, h)
	same(t, "Over another host", items(r.Over(at(0x0a400001, 32))), a, x, y)
	same(t, "Over one that has no value", items(r.Over(at(0x0a000000, 9))), a, x)
	same(t, "Over the last", items(r.Over(last)), a, l)
	same(t, "All of nothing", items(plain.NewTrie().All()))
	same(t, "Under of nothing", items(plain.NewTrie().Under(all)))
	same(t, "Over of nothing", items(plain.NewTrie().Over(all)))
}

func TestB4WhatStoodWhenTheRangeBegan(t *testing.T) {
	more := []plain.Item{{At: at(0x0a800000, 9), Value: 70}, {At: part, Value: 71}, {At: at(0, 32), Value: 72}}
	for name, seq := range map[string]func(*plain.Trie) iter.Seq2[api.Prefix, int]{
		"All":   (*plain.Trie).All,
		"Under": func(r *plain.Trie) iter.Seq2[api.Prefix, int] { return r.Under(all) },
		"Over":  func(r *plain.Trie) iter.Seq2[api.Prefix, int] { return r.Over(host) },
	} {
		r := filled(all, ten, part, host)
		want := items(seq(r))
		var got []plain.Item
		for p, v := range seq(r) {
			got = append(got, plain.Item{At: p, Value: v})
			for _, q := range []api.Prefix{all, ten, part, host} {
				r.Drop(q)
			}
			for _, m := range more {
				r.Put(m.At, m.Value)
			}
		}
		same(t, name, got, want...)
		same(t, name+": what stands then", items(r.All()), more[2], more[1], more[0])
	}
	r := filled(all, ten)
	got := plain.TrieStir(r, more)
	same(t, "TrieStir", got, plain.Item{At: all, Value: 1}, plain.Item{At: ten, Value: 2})
}

func TestB4RangedOverAgain(t *testing.T) {
	r := filled(all, ten)
	every, under, over := r.All(), r.Under(ten), r.Over(part)
	first, second := plain.TrieLater(r, plain.Item{At: part, Value: 8}, all)
	want := []plain.Item{{At: ten, Value: 2}, {At: part, Value: 8}}
	same(t, "the first time", first, want...)
	same(t, "the second time", second, want...)
	r.Drop(ten)
	for name, seq := range map[string]iter.Seq2[api.Prefix, int]{"All": every, "Under": under, "Over": over} {
		same(t, name+" then", items(seq), want[1])
		r.Put(host, 9)
		r.Drop(host)
		same(t, name+" again", items(seq), want[1])
	}
	// A range within a range over the same iterator begins anew.
	var pairs int
	r.Put(ten, 2)
	for range every {
		for range every {
			pairs++
		}
		r.Put(all, 1)
	}
	if pairs != 2+3 {
		t.Errorf("ranges within one another: %d, must be 5", pairs)
	}
}

func TestB4Stops(t *testing.T) {
	r := filled(all, ten, part, host, last)
	for name, seq := range map[string]iter.Seq2[api.Prefix, int]{"All": r.All(), "Under": r.Under(all), "Over": r.Over(host)} {
		whole := items(seq)
		for few := 1; few <= len(whole); few++ {
			calls := 0
			// Called by hand: a range statement would panic at a call behind the no, and this counts them.
			seq(func(p api.Prefix, v int) bool {
				calls++
				return calls < few
			})
			if calls != few {
				t.Errorf("%s: told to stop behind %d, %d calls", name, few, calls)
			}
		}
	}
	same(t, "TrieUnder", plain.TrieUnder(r, ten, 2), plain.Item{At: ten, Value: 2}, plain.Item{At: part, Value: 3})
	same(t, "TrieOver", plain.TrieOver(r, host, 1), plain.Item{At: all, Value: 1})
}

func TestB5Fork(t *testing.T) {
	r := filled(all, ten, part)
	f := r.Fork()
	same(t, "the fork", items(f.All()), items(r.All())...)
	if f.Len() != 3 {
		t.Errorf("Len of the fork: %d", f.Len())
	}
	f.Drop(part)
	f.Put(host, 7)
	f.Put(ten, 8)
	r.Drop(all)
	r.Put(last, 9)
	a, x, y := plain.Item{At: all, Value: 1}, plain.Item{At: ten, Value: 2}, plain.Item{At: part, Value: 3}
	same(t, "the first", items(r.All()), x, y, plain.Item{At: last, Value: 9})
	same(t, "the fork", items(f.All()), a, plain.Item{At: ten, Value: 8}, plain.Item{At: host, Value: 7})
	if r.Len() != 3 || f.Len() != 3 {
		t.Errorf("Len: %d and %d, must be 3 and 3", r.Len(), f.Len())
	}
	empty := plain.NewTrie().Fork()
	empty.Put(all, 1)
	if empty.Len() != 1 {
		t.Error("a fork of an empty trie is a trie")
	}
	// An iterator that was taken ahead of the fork goes on with its own trie.
	seq := r.All()
	g := r.Fork()
	for _, p := range []api.Prefix{ten, part, last} {
		g.Drop(p)
	}
	same(t, "an iterator of the first", items(seq), x, y, plain.Item{At: last, Value: 9})
}
