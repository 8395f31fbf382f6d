package trie_test

import (
	"maps"
	"math/rand"
	"slices"
	"testing"

	"wayfinder/api"
	"wayfinder/pfx"
	"wayfinder/plain"
)

// model is what a trie must be, in the plainest way.
type model map[api.Prefix]int

func (m model) put(p api.Prefix, v int) (int, bool) {
	if !pfx.Valid(p) {
		return 0, false
	}
	old, had := m[p]
	m[p] = v
	return old, had
}

func (m model) drop(p api.Prefix) (int, bool) {
	old, had := m[p]
	delete(m, p)
	return old, had
}

// some gives the items for which the question is answered yes, in Order.
func (m model) some(ask func(p api.Prefix) bool) []plain.Item {
	var out []plain.Item
	for _, p := range slices.SortedFunc(maps.Keys(m), pfx.Order) {
		if ask(p) {
			out = append(out, plain.Item{At: p, Value: m[p]})
		}
	}
	return out
}

// draw gives a prefix from few, so that many meet: only some bits of its address may be 1. Now and then it is a wrong one.
func draw(r *rand.Rand) api.Prefix {
	if r.Intn(20) == 0 {
		return wrong[r.Intn(len(wrong))]
	}
	n := []int{0, 1, 2, 3, 8, 9, 10, 16, 30, 31, 32}[r.Intn(11)]
	a := r.Uint32() & 0xc0c00003
	return at(uint32(uint64(a)>>(32-n)<<(32-n)), n)
}

func (m model) holds(t *testing.T, r *plain.Trie, p api.Prefix) {
	t.Helper()
	if r.Len() != len(m) {
		t.Fatalf("B1 Len: %d, must be %d", r.Len(), len(m))
	}
	v, had := r.Get(p)
	if want, is := m[p]; v != want || had != is {
		t.Fatalf("B1 Get %v: %d %v, must be %d %v", p, v, had, want, is)
	}
	var best plain.Item
	found := false
	for _, x := range m.some(func(q api.Prefix) bool { return pfx.Has(q, p.Addr) }) {
		best, found = x, true
	}
	q, v, ok := r.Match(p.Addr)
	if q != best.At || v != best.Value || ok != found {
		t.Fatalf("B2 Match %08x: %v %d %v, must be %v %v", p.Addr, q, v, ok, best, found)
	}
	same(t, "B3 All", items(r.All()), m.some(func(api.Prefix) bool { return true })...)
	same(t, "B3 Under", items(r.Under(p)), m.some(func(q api.Prefix) bool { return pfx.Covers(p, q) })...)
	same(t, "B3 Over", items(r.Over(p)), m.some(func(q api.Prefix) bool { return pfx.Covers(q, p) })...)
}

// Tries, forked from one another, and their models go through the same puts and drops.
func TestB1ToB5AgainstAModel(t *testing.T) {
	r := rand.New(rand.NewSource(5))
	tries, models := []*plain.Trie{plain.NewTrie()}, []model{{}}
	for step := range 3000 {
		i := r.Intn(len(tries))
		p := draw(r)
		var got, want int
		var had, is bool
		// There are times of more puts and times of more drops, so that tries grow and empty.
		if r.Intn(10) < 3+step/300%2*4 {
			got, had = tries[i].Put(p, step)
			want, is = models[i].put(p, step)
		} else {
			got, had = tries[i].Drop(p)
			want, is = models[i].drop(p)
		}
		if got != want || had != is {
			t.Fatalf("B1 step %d, %v: %d %v, must be %d %v", step, p, got, had, want, is)
		}
		if r.Intn(50) == 0 {
			fork, of := tries[i].Fork(), maps.Clone(models[i])
			if len(tries) < 6 {
				tries, models = append(tries, fork), append(models, of)
			} else {
				j := r.Intn(6)
				tries[j], models[j] = fork, of
			}
		}
		for j, x := range tries {
			models[j].holds(t, x, draw(r))
		}
		if t.Failed() {
			t.FailNow()
		}
	}
}
