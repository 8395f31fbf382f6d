package pv

import (
	"cmp"

	"wayfinder/api"
	"wayfinder/pfx"
)

// maxNumber is the greatest number that four bytes hold.
const maxNumber = 1<<32 - 1

// The bounds of what one or two bytes tell.
const (
	leastHold  = 3
	mostHold   = 65535
	mostCode   = 255
	mostOrigin = 2
)

func within(n, least, most int) bool { return least <= n && n <= most }

// check tells what keeps a message from being written, but its length.
func check(m api.PvMessage) api.Errno {
	switch {
	case !isKind(m.Kind):
		return api.ErrKind
	case !hasForm(m):
		return api.ErrForm
	case !all(m.Lost, pfx.Valid) || !all(m.Have, pfx.Valid):
		return api.ErrBits
	case !rise(m.Lost, pfx.Order) || !rise(m.Have, pfx.Order) || meet(m.Lost, m.Have):
		return api.ErrTwice
	case !inRange(m):
		return api.ErrRange
	case !rise(m.Route.Marks, cmp.Compare[int]):
		return api.ErrForm
	}
	return api.OK
}

// hasForm takes off what the message's kind has; nothing may be left then.
func hasForm(m api.PvMessage) bool {
	switch m.Kind {
	case api.PvOpen:
		m.Domain, m.Id, m.Hold = 0, 0, 0
	case api.PvUpdate:
		if len(m.Have) > 0 {
			m.Route = api.Route{Prefix: m.Route.Prefix}
		}
		m.Lost, m.Have = nil, nil
	case api.PvNotice:
		m.Code = 0
	}
	return m.Domain == 0 && m.Id == 0 && m.Hold == 0 && m.Code == 0 && len(m.Lost) == 0 && len(m.Have) == 0 && isBare(m.Route)
}

// isBare says whether a route tells nothing.
func isBare(r api.Route) bool {
	return r.Prefix == api.Prefix{} && r.Origin == 0 && r.Next == 0 && r.Med == 0 && r.Pref == 0 && r.Author == 0 &&
		len(r.Path) == 0 && len(r.Marks) == 0 && len(r.Clusters) == 0
}

func all[T any](list []T, right func(T) bool) bool {
	for _, x := range list {
		if !right(x) {
			return false
		}
	}
	return true
}

func rise[T any](list []T, order func(x, y T) int) bool {
	for i := 1; i < len(list); i++ {
		if order(list[i-1], list[i]) >= 0 {
			return false
		}
	}
	return true
}

// meet says whether a prefix is in both of two lists that rise.
func meet(p, q []api.Prefix) bool {
	for len(p) > 0 && len(q) > 0 {
		switch order := pfx.Order(p[0], q[0]); {
		case order == 0:
			return true
		case order < 0:
			p = p[1:]
		default:
			q = q[1:]
		}
	}
	return false
}

// inRange looks at the numbers that the message's kind has.
func inRange(m api.PvMessage) bool {
	switch m.Kind {
	case api.PvOpen:
		return isName(m.Domain) && isName(m.Id) && (m.Hold == 0 || within(m.Hold, leastHold, mostHold))
	case api.PvUpdate:
		return routeInRange(m.Route)
	case api.PvNotice:
		return within(m.Code, 0, mostCode)
	}
	return true
}

func routeInRange(r api.Route) bool {
	return within(r.Origin, 0, mostOrigin) && isNumber(r.Med) && isNumber(r.Pref) && isNumber(r.Author) &&
		len(r.Path) <= api.MaxPath && all(r.Path, isName) &&
		len(r.Marks) <= api.MaxMarks && all(r.Marks, isNumber) &&
		len(r.Clusters) <= api.MaxMarks && all(r.Clusters, isNumber)
}

// isName says whether a number may name a domain or a router.
func isName(n int) bool { return within(n, 1, maxNumber) }

func isNumber(n int) bool { return within(n, 0, maxNumber) }
