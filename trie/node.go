package trie

import (
	"wayfinder/api"
	"wayfinder/bit"
	"wayfinder/pfx"
)

// node is a prefix that has a value, or below which the ways to two others part (only such prefixes have a node).
//
// A node is never changed once a trie has it: what is put or dropped makes the nodes on the way down to it anew. So a fork, and a range that has begun, keep what they have without a copy.
type node[V any] struct {
	at    api.Prefix
	value V
	has   bool
	sub   [2]*node[V] // by the first bit behind at
}

// toward is the node below n on the way to a. (Below a whole address there is none: bit.After answers 0, where nothing is.)
func (n *node[V]) toward(a uint32) *node[V] { return n.sub[bit.After(a, n.at.Len)] }

// hang answers n with that part below it, on the side where its prefix lies.
func (n *node[V]) hang(part *node[V]) *node[V] {
	anew := *n
	anew.sub[bit.After(part.at.Addr, n.at.Len)] = part
	return &anew
}

// with answers what n becomes when leaf, a new node with a valid prefix and a value, is put there, and what stood under its prefix. n may be nil.
func (n *node[V]) with(leaf *node[V]) (made *node[V], old V, had bool) {
	switch {
	case n == nil:
		return leaf, old, false
	case n.at == leaf.at:
		leaf.sub = n.sub
		return leaf, n.value, n.has
	case pfx.Covers(n.at, leaf.at):
		made, old, had = n.toward(leaf.at.Addr).with(leaf)
		return n.hang(made), old, had
	case pfx.Covers(leaf.at, n.at):
		return leaf.hang(n), old, false
	}
	fork := &node[V]{at: bit.Shared(n.at, leaf.at)}
	return fork.hang(n).hang(leaf), old, false
}

// without answers what n becomes when what stands under p is dropped, and that. n may be nil.
func (n *node[V]) without(p api.Prefix) (made *node[V], old V, had bool) {
	switch {
	case n == nil || !pfx.Covers(n.at, p):
		return n, old, false
	case n.at == p && n.has:
		bare := &node[V]{at: p, sub: n.sub}
		return bare.slim(), n.value, true
	case n.at == p:
		return n, old, false
	}
	part, old, had := n.toward(p.Addr).without(p)
	if !had {
		return n, old, false
	}
	anew := *n
	anew.sub[bit.After(p.Addr, n.at.Len)] = part
	return anew.slim(), old, true
}

// slim answers what is left of n when it is only kept where it is needed.
func (n *node[V]) slim() *node[V] {
	switch {
	case n.has || n.sub[0] != nil && n.sub[1] != nil:
		return n
	case n.sub[0] != nil:
		return n.sub[0]
	}
	return n.sub[1]
}

// walk gives n and what is below it, in Order, until yield says no; it answers whether yield never did.
func (n *node[V]) walk(yield func(api.Prefix, V) bool) bool {
	if n == nil {
		return true
	}
	if n.has && !yield(n.at, n.value) {
		return false
	}
	return n.sub[0].walk(yield) && n.sub[1].walk(yield)
}
