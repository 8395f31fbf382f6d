// Package bit: the bits by which addresses and prefixes part.
package bit

import (
	"math/bits"

	"wayfinder/api"
)

// After is the bit of a behind its first n; 0 when there is none.
func After(a uint32, n int) int { return int(a << n >> 31) }

// Shared is the longest prefix that covers both; neither covers the other.
func Shared(p, q api.Prefix) api.Prefix {
	same := bits.LeadingZeros32(p.Addr ^ q.Addr)
	return api.Prefix{Addr: p.Addr &^ (^uint32(0) >> same), Len: same}
}
