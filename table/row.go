package table

import (
	"wayfinder/api"
	"wayfinder/pfx"
	"wayfinder/trie"
)

// row is what is done for a prefix.
type row struct {
	kind, cost int
	over       linkSet
}

// claim is what a fixed one or an offer gives: a row which, if it has no links of its own, goes as the row that leads to next.
type claim struct {
	row
	next uint32
}

// waysThatCount gives the rows of the ways that count.
func waysThatCount(l []api.Way) *trie.Trie[row] {
	out := trie.New[row]()
	for _, w := range l {
		if pfx.Valid(w.Prefix) && rowKind(w.Kind) != 0 && w.Cost >= 0 && areLinks(w.Links) {
			addFirst(out, w.Prefix, rowOf(w))
		}
	}
	return out
}

// rowKind is the kind of the row that a kind of way gives; 0: there is no such kind of way.
func rowKind(way int) int {
	switch way {
	case api.WayLocal:
		return api.RowLocal
	case api.WayIntra:
		return api.RowIntra
	case api.WayInter:
		return api.RowInter
	case api.WayExternal:
		return api.RowExternal
	}
	return 0
}

// rowOf gives the row of a way that counts.
func rowOf(w api.Way) row {
	r := row{kind: rowKind(w.Kind), cost: w.Cost}
	if r.kind != api.RowLocal {
		r.over = setOf(w.Links)
	}
	return r
}

// fixedClaims gives what a list claims that checkFixed has passed.
func fixedClaims(l []api.Fixed) *trie.Trie[claim] {
	out := trie.New[claim]()
	for _, f := range l {
		out.Put(f.Prefix, claim{row: row{kind: api.RowFixed, over: setOf(f.Links)}, next: f.Next})
	}
	return out
}

// offersThatCount gives what the offers claim that count.
func offersThatCount(l []api.Offer) *trie.Trie[claim] {
	out := trie.New[claim]()
	for _, o := range l {
		if !pfx.Valid(o.Route.Prefix) || o.Peer < 0 || o.Cost < 0 {
			continue
		}
		kind := api.RowOuter
		if o.Inner {
			kind = api.RowInner
		}
		addFirst(out, o.Route.Prefix, claim{row: row{kind: kind, cost: o.Cost}, next: o.Route.Next})
	}
	return out
}

// addFirst puts v under a valid prefix, unless something stands there already or there is no more room.
func addFirst[V any](t *trie.Trie[V], at api.Prefix, v V) {
	if _, had := t.Get(at); !had && t.Len() < api.MaxRows {
		t.Put(at, v)
	}
}

// joined gives the rows that are there and those that claims give, of each prefix that of the least kind. A claim never goes by what another one gives: its links are looked for in the rows that are there alone.
func joined(there *trie.Trie[row], claims *trie.Trie[claim]) *trie.Trie[row] {
	out := there.Fork()
	for at, c := range claims.All() {
		r := c.row
		if r.over == nowhere {
			_, to, _ := there.Match(c.next)
			r.over = to.over
		}
		if is, had := out.Get(at); r.over != nowhere && (!had || r.kind < is.kind) {
			out.Put(at, r)
		}
	}
	return out
}
