// Package pfx: prefixes of addresses, their texts, and sets of them.
package pfx

import (
	"wayfinder/api"
)

// addrBits is how many bits an address has.
const addrBits = 32

// mask has the first n bits; n is 0 to addrBits.
func mask(n int) uint32 { return ^uint32(0) << (addrBits - n) }

// Valid says whether no bit stands behind the length.
func Valid(p api.Prefix) bool {
	// The length comes first: mask panics for a wrong one.
	return p.Len >= 0 && p.Len <= addrBits && p.Addr&^mask(p.Len) == 0
}

// Has says whether the address is one of p's.
func Has(p api.Prefix, a uint32) bool { return Valid(p) && a&mask(p.Len) == p.Addr }

// Covers says whether all of q's addresses are p's.
func Covers(p, q api.Prefix) bool { return Valid(q) && p.Len <= q.Len && Has(p, q.Addr) }

// Order: which stands first.
func Order(p, q api.Prefix) int {
	switch {
	case p == q:
		return 0
	case p.Addr < q.Addr || p.Addr == q.Addr && p.Len < q.Len:
		return -1
	}
	return 1
}
