package table_test

import (
	"fmt"
	"slices"

	"wayfinder/api"
	"wayfinder/fib"
)

// sides are what a table was handed last from each side. What that must give is worked out anew each time, in the plainest way.
type sides struct {
	ways   []api.Way
	fixed  []api.Fixed
	offers []api.Offer
}

func isValid(p api.Prefix) bool {
	return p.Len >= 0 && p.Len <= 32 && uint64(p.Addr)%(uint64(1)<<(32-p.Len)) == 0
}

// has says whether a is one of the addresses of a valid prefix.
func has(p api.Prefix, a uint32) bool {
	return uint64(p.Addr) <= uint64(a) && uint64(a) < uint64(p.Addr)+uint64(1)<<(32-p.Len)
}

func areLinks(l []int) bool {
	for _, n := range l {
		if n < 0 || n > 65535 {
			return false
		}
	}
	return true
}

func isAhead(p, q api.Prefix) bool { return p.Addr < q.Addr || p.Addr == q.Addr && p.Len < q.Len }

// at gives the place of the row of a prefix; -1: it has none.
func at(rows []api.Row, p api.Prefix) int {
	return slices.IndexFunc(rows, func(r api.Row) bool { return r.Prefix == p })
}

// longest gives the row of the longest prefix that holds an address.
func longest(rows []api.Row, a uint32) (api.Row, bool) {
	best := api.Row{Prefix: api.Prefix{Len: -1}}
	for _, r := range rows {
		if has(r.Prefix, a) && r.Prefix.Len > best.Prefix.Len {
			best = r
		}
	}
	return best, best.Prefix.Len >= 0
}

// firsts gives of rows of several prefixes the first of each, and of these so many as count.
func firsts(rows []api.Row) []api.Row {
	var out []api.Row
	for _, r := range rows {
		if at(out, r.Prefix) < 0 && len(out) < api.MaxRows {
			out = append(out, r)
		}
	}
	return out
}

// least gives of rows of several prefixes that of the least kind of each, in order.
func least(rows ...api.Row) []api.Row {
	var out []api.Row
	for _, r := range rows {
		if i := at(out, r.Prefix); i < 0 {
			out = append(out, r)
		} else if r.Kind < out[i].Kind {
			out[i] = r
		}
	}
	slices.SortFunc(out, func(r, s api.Row) int {
		if isAhead(r.Prefix, s.Prefix) {
			return -1
		}
		return 1
	})
	return out
}

func (s sides) ofWays() []api.Row {
	kinds := []int{0, api.RowLocal, api.RowIntra, api.RowInter, api.RowExternal}
	var out []api.Row
	for _, w := range s.ways {
		if !isValid(w.Prefix) || w.Kind < 1 || w.Kind > 4 || w.Cost < 0 || !areLinks(w.Links) {
			continue
		}
		r := api.Row{Prefix: w.Prefix, Kind: kinds[w.Kind], Cost: w.Cost}
		if w.Kind != api.WayLocal {
			r.Links = slices.Compact(slices.Sorted(slices.Values(w.Links)))
		}
		out = append(out, r)
	}
	return firsts(out)
}

// base gives the rows that ways and fixed ones give.
func (s sides) base() []api.Row {
	ways := s.ofWays()
	out := slices.Clone(ways)
	for _, f := range s.fixed {
		r := api.Row{Prefix: f.Prefix, Kind: api.RowFixed, Links: f.Links}
		if len(f.Links) == 0 {
			to, _ := longest(ways, f.Next)
			r.Links = to.Links
		}
		if len(r.Links) > 0 {
			out = append(out, r)
		}
	}
	return least(out...)
}

func (s sides) rows() []api.Row {
	base := s.base()
	var offers []api.Row
	for _, o := range s.offers {
		if isValid(o.Route.Prefix) && o.Peer >= 0 && o.Cost >= 0 {
			r := api.Row{Prefix: o.Route.Prefix, Kind: api.RowOuter, Cost: o.Cost}
			if o.Inner {
				r.Kind = api.RowInner
			}
			to, _ := longest(base, o.Route.Next)
			r.Links = to.Links
			offers = append(offers, r)
		}
	}
	// That one has no links takes nothing from its being the first of its prefix.
	offers = slices.DeleteFunc(firsts(offers), func(r api.Row) bool { return len(r.Links) == 0 })
	return least(append(base, offers...)...)
}

func (s sides) costs(l []uint32) []api.NextCost {
	base := s.base()
	var out []api.NextCost
	for i, a := range l {
		if r, ok := longest(base, a); ok && len(r.Links) > 0 && !slices.Contains(l[:i], a) {
			out = append(out, api.NextCost{Next: a, Cost: r.Cost})
		}
	}
	return out
}

// check is what Fixed must say of a list.
func check(l []api.Fixed) api.Errno {
	is := func(wrong func(i int, f api.Fixed) bool) bool {
		for i, f := range l {
			if wrong(i, f) {
				return true
			}
		}
		return false
	}
	switch {
	case len(l) > 2000:
		return api.ErrFull
	case is(func(_ int, f api.Fixed) bool { return !isValid(f.Prefix) }):
		return api.ErrBits
	case is(func(i int, f api.Fixed) bool {
		return slices.ContainsFunc(l[:i], func(g api.Fixed) bool { return g.Prefix == f.Prefix })
	}):
		return api.ErrTwice
	case is(func(_ int, f api.Fixed) bool { return !areLinks(f.Links) }):
		return api.ErrRange
	case is(func(_ int, f api.Fixed) bool {
		rises := slices.IsSorted(f.Links) && len(slices.Compact(slices.Clone(f.Links))) == len(f.Links)
		return len(f.Links) > 0 && (f.Next != 0 || !rises)
	}):
		return api.ErrForm
	}
	return api.OK
}

// book is what the rows are at one time, and the numbers of their sets, by what these show.
type book struct {
	rows    []api.Row
	numbers map[string]int
}

// then gives the book behind a call that leads to these rows.
func (b book) then(rows []api.Row) book {
	out := book{rows, map[string]int{}}
	for _, r := range rows {
		if n, had := b.numbers[fmt.Sprint(r.Links)]; had {
			out.numbers[fmt.Sprint(r.Links)] = n
		}
	}
	isTaken := func(n int) bool {
		for _, m := range []map[string]int{b.numbers, out.numbers} {
			for _, taken := range m {
				if taken == n {
					return true
				}
			}
		}
		return false
	}
	for _, r := range rows {
		if _, has := out.numbers[fmt.Sprint(r.Links)]; !has {
			n := 1
			for isTaken(n) {
				n++
			}
			out.numbers[fmt.Sprint(r.Links)] = n
		}
	}
	return out
}

// number gives the number to which a prefix leads; 0: it has no row.
func (b book) number(p api.Prefix) int {
	if i := at(b.rows, p); i >= 0 {
		return b.numbers[fmt.Sprint(b.rows[i].Links)]
	}
	return 0
}

// find gives the number to which an address leads.
func (b book) find(a uint32) int {
	r, ok := longest(b.rows, a)
	if !ok {
		return 0
	}
	return b.number(r.Prefix)
}

// writes gives what a forwarding table that is as the book b answers when it is led to next.
func (b book) writes(t *fib.Table, next book) []api.Write {
	var out []api.Write
	add := func(l []api.Write, e api.Errno) {
		if e != api.OK {
			panic(e)
		}
		out = append(out, l...)
	}
	for n := 32; n >= 0; n-- {
		for _, r := range next.rows {
			if r.Prefix.Len == n && next.number(r.Prefix) != b.number(r.Prefix) {
				add(t.Set(r.Prefix, next.number(r.Prefix)))
			}
		}
	}
	for n := range 33 {
		for _, r := range b.rows {
			if r.Prefix.Len == n && next.number(r.Prefix) == 0 {
				add(t.Drop(r.Prefix))
			}
		}
	}
	return out
}
