package table

import (
	"slices"

	"wayfinder/api"
	"wayfinder/pfx"
)

func checkFixed(l []api.Fixed) api.Errno {
	switch {
	case len(l) > api.MaxRows:
		return api.ErrFull
	case slices.ContainsFunc(l, func(f api.Fixed) bool { return !pfx.Valid(f.Prefix) }):
		return api.ErrBits
	case hasTwice(l):
		return api.ErrTwice
	case slices.ContainsFunc(l, func(f api.Fixed) bool { return !areLinks(f.Links) }):
		return api.ErrRange
	case slices.ContainsFunc(l, func(f api.Fixed) bool { return !isWellFormed(f) }):
		return api.ErrForm
	}
	return api.OK
}

// hasTwice says whether two have one prefix.
func hasTwice(l []api.Fixed) bool {
	seen := map[api.Prefix]struct{}{}
	for _, f := range l {
		seen[f.Prefix] = struct{}{}
	}
	return len(seen) < len(l)
}

// isWellFormed says whether one goes over links that rise, or to an address, not both.
func isWellFormed(f api.Fixed) bool {
	for i := 1; i < len(f.Links); i++ {
		if f.Links[i-1] >= f.Links[i] {
			return false
		}
	}
	return len(f.Links) == 0 || f.Next == 0
}
