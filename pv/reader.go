package pv

import (
	"wayfinder/api"
	"wayfinder/wire"
)

// readBody reads what follows behind a message's sum, and gives it again without the attributes that are passed over. Any panic but of the reader would be a mistake of this program, and is let go on.
func readBody(kind int, b []byte) (m api.PvMessage, body []byte, e api.Errno) {
	defer func() {
		if wrong := recover(); wrong != nil {
			if wrong != api.ErrForm {
				panic(wrong)
			}
			m, body, e = api.PvMessage{}, nil, api.ErrForm
		}
	}()
	r := &reader{b}
	m, body = api.PvMessage{Kind: kind}, b
	switch kind {
	case api.PvOpen:
		r.number(1) // the version: Decode sees whether it is right
		m.Domain, m.Hold, m.Id = r.number(4), r.number(2), r.number(4)
	case api.PvUpdate:
		body = r.update(&m)
	case api.PvNotice:
		m.Code = r.number(1)
	}
	return m, body, api.OK
}

// reader takes pieces off the front of bytes. Bytes that are missing, or wrong, are a panic with api.ErrForm, which readBody catches.
type reader struct {
	rest []byte
}

// cut takes so many bytes, without the room behind them.
func (r *reader) cut(size int) []byte {
	if size > len(r.rest) {
		panic(api.ErrForm)
	}
	piece := r.rest[:size:size]
	r.rest = r.rest[size:]
	return piece
}

func (r *reader) number(size int) int { return wire.Number(r.cut(size)) }

// piece takes how many bytes it has, and these.
func (r *reader) piece() []byte { return r.cut(r.number(2)) }

// numbers takes all that is left.
func (r *reader) numbers() []int {
	var out []int
	for len(r.rest) > 0 {
		out = append(out, r.number(4))
	}
	return out
}

// prefixes takes all that is left.
func (r *reader) prefixes() []api.Prefix {
	var out []api.Prefix
	for len(r.rest) > 0 {
		out = append(out, r.prefix())
	}
	return out
}

func (r *reader) prefix() api.Prefix {
	bits := r.number(1)
	if bits > addrBits {
		panic(api.ErrForm)
	}
	size := bytesOf(bits)
	return api.Prefix{Addr: uint32(r.number(size)) << (addrBits - byteBits*size), Len: bits}
}

// update reads an update's parts, and gives them again without the attributes that are passed over.
func (r *reader) update(m *api.PvMessage) []byte {
	lost, attributes := r.piece(), r.piece()
	have := r.rest
	var known []byte
	m.Lost = (&reader{lost}).prefixes()
	m.Route, known = readAttributes(attributes)
	m.Have = (&reader{have}).prefixes()
	return updateOf(lost, known, have)
}

// readAttributes gives what attributes tell, and the bytes of those that are not passed over: as all of them rise, these are the first.
func readAttributes(b []byte) (route api.Route, known []byte) {
	r, last := &reader{b}, 0
	for len(r.rest) > 0 {
		kind := r.number(1)
		value := r.piece()
		if kind <= last {
			panic(api.ErrForm)
		}
		last = kind
		if !within(kind, leastPassed, mostPassed) {
			setAttribute(&route, kind, &reader{value})
			size := len(b) - len(r.rest)
			known = b[:size:size]
		}
	}
	return route, known
}

func setAttribute(route *api.Route, kind int, value *reader) {
	switch kind {
	case attrOrigin:
		route.Origin = value.number(1)
	case attrPath:
		route.Path = value.numbers()
	case attrNext:
		route.Next = uint32(value.number(4))
	case attrMed:
		route.Med = value.number(4)
	case attrPref:
		route.Pref = value.number(4)
	case attrMarks:
		route.Marks = value.numbers()
	case attrAuthor:
		route.Author = value.number(4)
	case attrClusters:
		route.Clusters = value.numbers()
	default:
		panic(api.ErrForm)
	}
}
