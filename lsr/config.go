package lsr

import (
	"slices"

	"wayfinder/api"
	"wayfinder/pfx"
)

// The greatest numbers that two and four bytes hold, and the greatest of an area.
const (
	max16   = 1<<16 - 1
	max32   = 1<<32 - 1
	maxArea = api.Everywhere - 1
)

// maxStubs is how many stubs a router has in one area: its announcement tells of its own prefix, too.
const maxStubs = api.MaxItems - 1

func within(n, least, most int) bool { return least <= n && n <= most }

func checkConfig(c api.LsrConfig) api.Errno {
	if !within(c.ID, 1, max32) {
		return api.ErrRange
	}
	if len(c.Ports) > api.MaxItems {
		return api.ErrFull
	}
	for i, p := range c.Ports {
		if e := checkPort(p, c.Ports[:i]); e != api.OK {
			return e
		}
	}
	for i, s := range c.Stubs {
		if e := checkStub(s, c.Ports, c.Stubs[:i]); e != api.OK {
			return e
		}
	}
	return api.OK
}

func checkPort(p api.LsrPort, earlier []api.LsrPort) api.Errno {
	if !within(p.Link, 0, max16) || !within(p.Area, 0, maxArea) || !within(p.Cost, 1, max16) {
		return api.ErrRange
	}
	if slices.ContainsFunc(earlier, func(q api.LsrPort) bool { return q.Link == p.Link }) {
		return api.ErrTwice
	}
	return api.OK
}

func checkStub(s api.LsrStub, ports []api.LsrPort, earlier []api.LsrStub) api.Errno {
	if !pfx.Valid(s.Prefix) || s.Prefix.Len == 32 {
		return api.ErrBits
	}
	if !within(s.Cost, 0, max16) {
		return api.ErrRange
	}
	if !slices.ContainsFunc(ports, func(p api.LsrPort) bool { return p.Area == s.Area }) {
		return api.ErrNone
	}
	beside := 0
	for _, t := range earlier {
		if t.Area != s.Area {
			continue
		}
		if t.Prefix == s.Prefix {
			return api.ErrTwice
		}
		beside++
	}
	if beside >= maxStubs {
		return api.ErrFull
	}
	return api.OK
}

func checkOuter(l []api.LsrExt) api.Errno {
	if len(l) > api.MaxItems {
		return api.ErrFull
	}
	for i, x := range l {
		if !pfx.Valid(x.Prefix) {
			return api.ErrBits
		}
		if !within(x.Cost, 0, api.MaxCost) || !within(x.Tag, 0, max32) {
			return api.ErrRange
		}
		if slices.ContainsFunc(l[:i], func(y api.LsrExt) bool { return y.Prefix == x.Prefix }) {
			return api.ErrTwice
		}
	}
	return api.OK
}
