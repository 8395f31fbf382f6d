package pv

import (
	"wayfinder/api"
	"wayfinder/wire"
)

// mark is each of the bytes with which a message begins.
const mark = 255

// Where the parts of a message stand that all kinds have: the length and the kind behind the mark, the sum, and what follows behind it.
const (
	lengthAt = 4
	kindAt   = 6
	sumAt    = 7
	headSize = 9
)

// Of the sum: how it begins, and the bits that are turned in it when a 1 falls out of it.
const (
	firstSum = 65535
	turns    = 4129
)

// framed puts ahead of a body what all messages begin with.
func framed(kind int, body []byte) []byte {
	size := headSize + len(body)
	b := make([]byte, 0, size)
	for range lengthAt {
		b = append(b, mark)
	}
	b = wire.Put(b, kindAt-lengthAt, size)
	b = wire.Put(b, sumAt-kindAt, kind)
	b = wire.Put(b, headSize-sumAt, sumOf(byte(kind), body))
	return append(b, body...)
}

// checkFrame looks at what holds for the bytes of every message, of whatever kind.
func checkFrame(b []byte) api.Errno {
	if len(b) < headSize {
		return api.ErrForm
	}
	if e := checkBegin(b); e != api.OK {
		return e
	}
	if sizeOf(b) != len(b) {
		return api.ErrForm
	}
	if wire.Number(b[sumAt:headSize]) != sumOf(b[kindAt], b[headSize:]) {
		return api.ErrSum
	}
	if !isKind(kindOf(b)) {
		return api.ErrKind
	}
	return api.OK
}

// checkBegin looks at a message's mark and length, as far as they are there.
func checkBegin(b []byte) api.Errno {
	for _, c := range b[:min(len(b), lengthAt)] {
		if c != mark {
			return api.ErrForm
		}
	}
	if tellsSize(b) && !within(sizeOf(b), headSize, api.MaxPv) {
		return api.ErrLong
	}
	return api.OK
}

// tellsSize says whether so much of a message is there that its length can be asked.
func tellsSize(b []byte) bool { return len(b) >= kindAt }

func sizeOf(b []byte) int { return wire.Number(b[lengthAt:kindAt]) }

func kindOf(b []byte) int { return int(b[kindAt]) }

func isKind(n int) bool { return within(n, api.PvOpen, api.PvNotice) }

// sumOf is the sum by which a bent message is known.
func sumOf(kind byte, body []byte) int {
	sum := stir(firstSum, kind)
	for _, c := range body {
		sum = stir(sum, c)
	}
	return int(sum)
}

func stir(sum uint16, c byte) uint16 {
	sum ^= uint16(c) << 8
	for range 8 {
		sum = sum<<1 ^ (sum>>15)*turns
	}
	return sum
}
