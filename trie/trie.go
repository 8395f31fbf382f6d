// Package trie: values under prefixes; the longest match.
package trie

import (
	"iter"

	"wayfinder/api"
	"wayfinder/pfx"
)

// Trie holds values under prefixes.
type Trie[V any] struct {
	root  *node[V]
	count int
}

// New answers an empty trie.
func New[V any]() *Trie[V] { return &Trie[V]{} }

// Len is how many prefixes have a value.
func (t *Trie[V]) Len() int { return t.count }

// Fork answers a trie that holds the same.
func (t *Trie[V]) Fork() *Trie[V] {
	// Nodes are never changed, so the two may share them.
	return &Trie[V]{root: t.root, count: t.count}
}

// Put puts a value under p.
func (t *Trie[V]) Put(p api.Prefix, v V) (V, bool) {
	if !pfx.Valid(p) {
		var none V
		return none, false
	}
	root, old, had := t.root.with(&node[V]{at: p, value: v, has: true})
	t.root = root
	if !had {
		t.count++
	}
	return old, had
}

// Drop takes away what stands under p.
func (t *Trie[V]) Drop(p api.Prefix) (V, bool) {
	root, old, had := t.root.without(p)
	t.root = root
	if had {
		t.count--
	}
	return old, had
}

// Get answers what stands under p.
func (t *Trie[V]) Get(p api.Prefix) (V, bool) {
	for q, v := range t.Over(p) {
		if q == p {
			return v, true
		}
	}
	var none V
	return none, false
}

// Match answers the longest prefix that holds a.
func (t *Trie[V]) Match(a uint32) (api.Prefix, V, bool) {
	var at api.Prefix
	var value V
	found := false
	for q, v := range t.Over(api.Prefix{Addr: a, Len: 32}) {
		at, value, found = q, v, true
	}
	return at, value, found
}

// All gives all prefixes, in order.
func (t *Trie[V]) All() iter.Seq2[api.Prefix, V] { return t.Under(api.Prefix{}) }

// Under gives those that p covers, in order.
func (t *Trie[V]) Under(p api.Prefix) iter.Seq2[api.Prefix, V] {
	return func(yield func(api.Prefix, V) bool) {
		n := t.root
		for n != nil && n.at != p && pfx.Covers(n.at, p) {
			n = n.toward(p.Addr)
		}
		if n != nil && pfx.Covers(p, n.at) {
			n.walk(yield)
		}
	}
}

// Over gives those that cover p, the shortest first.
func (t *Trie[V]) Over(p api.Prefix) iter.Seq2[api.Prefix, V] {
	return func(yield func(api.Prefix, V) bool) {
		for n := t.root; n != nil && pfx.Covers(n.at, p); n = n.toward(p.Addr) {
			if n.has && !yield(n.at, n.value) {
				return
			}
		}
	}
}
