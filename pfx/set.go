package pfx

import (
	"math/bits"
	"slices"

	"wayfinder/api"
)

// span is the addresses from first on that lie below end. The fields are wider than an address, as the end of the last span lies beyond all addresses.
//
// A list of spans rises, and between two of them there is always an address that is in neither: so a set of addresses has just one list, and a list of prefixes made from it span by span is the shortest.
type span struct{ first, end uint64 }

// allEnd is the end of the last address.
const allEnd = uint64(1) << addrBits

// Cover gives the fewest prefixes that hold what the lists hold.
func Cover(lists ...[]api.Prefix) []api.Prefix { return prefixesOf(spansOf(lists...)) }

// Without gives what is in p and not in q.
func Without(p, q []api.Prefix) []api.Prefix {
	return prefixesOf(overlap(spansOf(p), gaps(spansOf(q))))
}

// Both gives what is in p and in q.
func Both(p, q []api.Prefix) []api.Prefix { return prefixesOf(overlap(spansOf(p), spansOf(q))) }

// spansOf gives the addresses of the valid prefixes of all lists.
func spansOf(lists ...[]api.Prefix) []span {
	var spans []span
	for _, p := range sorted(lists) {
		next := span{uint64(p.Addr), uint64(p.Addr) + 1<<(addrBits-p.Len)}
		if last := len(spans) - 1; last >= 0 && next.first <= spans[last].end {
			spans[last].end = max(spans[last].end, next.end)
		} else {
			spans = append(spans, next)
		}
	}
	return spans
}

// sorted gives the valid prefixes of all lists, in Order.
func sorted(lists [][]api.Prefix) []api.Prefix {
	var all []api.Prefix
	for _, list := range lists {
		for _, p := range list {
			if Valid(p) {
				all = append(all, p)
			}
		}
	}
	slices.SortFunc(all, Order)
	return all
}

// gaps gives the addresses that are in none of the spans.
func gaps(spans []span) []span {
	var out []span
	at := uint64(0)
	for _, s := range spans {
		if at < s.first {
			out = append(out, span{at, s.first})
		}
		at = s.end
	}
	if at < allEnd {
		out = append(out, span{at, allEnd})
	}
	return out
}

// overlap gives the addresses that are in a span of both lists.
func overlap(a, b []span) []span {
	var out []span
	for len(a) > 0 && len(b) > 0 {
		both := span{max(a[0].first, b[0].first), min(a[0].end, b[0].end)}
		if both.first < both.end {
			out = append(out, both)
		}
		// The one that ends first can meet nothing further of the other list.
		if a[0].end < b[0].end {
			a = a[1:]
		} else {
			b = b[1:]
		}
	}
	return out
}

// prefixesOf gives the fewest prefixes that hold the addresses of the spans, in Order.
func prefixesOf(spans []span) []api.Prefix {
	var out []api.Prefix
	for _, s := range spans {
		for at := s.first; at < s.end; {
			free := widest(at, s.end)
			out = append(out, api.Prefix{Addr: uint32(at), Len: addrBits - free})
			at += 1 << free
		}
	}
	return out
}

// widest is how many bits stand behind the length of the shortest prefix that begins at first and goes no further than end.
func widest(first, end uint64) int {
	// With allEnd's bit address 0, too, has a lowest bit.
	lowest := bits.TrailingZeros64(first | allEnd)
	return min(lowest, bits.Len64(end-first)-1)
}
