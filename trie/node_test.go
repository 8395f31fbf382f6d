package trie

import (
	"math/rand"
	"testing"

	"wayfinder/api"
)

// nodes counts n and those below it, and how many of them have a value or part two ways.
func nodes[V any](n *node[V]) (all, needed int) {
	if n == nil {
		return 0, 0
	}
	all, needed = 1, 0
	if n.has || n.sub[0] != nil && n.sub[1] != nil {
		needed = 1
	}
	for _, part := range n.sub {
		a, b := nodes(part)
		all, needed = all+a, needed+b
	}
	return all, needed
}

// What was dropped leaves nothing behind: no call tells that, so the nodes are counted.
func TestOnlyNodesThatAreNeededAreKept(t *testing.T) {
	r := rand.New(rand.NewSource(6))
	trie := New[int]()
	var list []api.Prefix
	for i := range 500 {
		n := r.Intn(33)
		p := api.Prefix{Addr: uint32(uint64(r.Uint32()&0xf000000f) >> (32 - n) << (32 - n)), Len: n}
		trie.Put(p, i)
		list = append(list, p)
	}
	for _, p := range list {
		trie.Drop(p)
		if all, needed := nodes(trie.root); all != needed {
			t.Fatalf("%d nodes, %d are needed", all, needed)
		}
	}
	if trie.root != nil || trie.Len() != 0 {
		t.Error("something is left behind")
	}
}
