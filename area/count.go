package area

import (
	"wayfinder/api"
	"wayfinder/pfx"
)

// The greatest numbers that count, beside api.MaxCost.
const (
	mostNode     = 1<<32 - 1
	mostTag      = 1<<32 - 1
	mostStubCost = 65535
)

// addrBits is how many bits an address has.
const addrBits = 32

func upTo(most, n int) bool { return 0 <= n && n <= most }

// own is the prefix that a router has for itself alone.
func own(node int) api.Prefix { return api.Prefix{Addr: uint32(node), Len: addrBits} }

func stubCounts(s api.Stub) bool {
	return pfx.Valid(s.Prefix) && upTo(mostNode, s.Node) && upTo(mostStubCost, s.Cost) &&
		(s.Prefix.Len < addrBits || s.Prefix == own(s.Node))
}

func sumCounts(s api.Stub) bool {
	return pfx.Valid(s.Prefix) && upTo(mostNode, s.Node) && upTo(api.MaxCost, s.Cost)
}

func extCounts(x api.Ext) bool {
	return pfx.Valid(x.Prefix) && upTo(mostNode, x.Node) && upTo(mostTag, x.Tag) && upTo(api.MaxCost, x.Cost)
}
