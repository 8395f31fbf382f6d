package pv

import (
	"wayfinder/api"
	"wayfinder/wire"
)

// version is what an open begins with.
const version = 1

// The kinds of attributes.
const (
	attrOrigin   = 1
	attrPath     = 2
	attrNext     = 3
	attrMed      = 4
	attrPref     = 5
	attrMarks    = 6
	attrAuthor   = 7
	attrClusters = 8
)

// The kinds of attributes that are passed over, whatever they tell.
const (
	leastPassed = 128
	mostPassed  = 191
)

// How many bits an address and a byte have.
const (
	addrBits = 32
	byteBits = 8
)

// bytesOf tells how many bytes hold so many bits.
func bytesOf(bits int) int { return (bits + byteBits - 1) / byteBits }

// bodyOf writes what follows behind a message's sum.
func bodyOf(m api.PvMessage) []byte {
	var b []byte
	switch m.Kind {
	case api.PvOpen:
		b = wire.Put(b, 1, version)
		b = wire.Put(b, 4, m.Domain)
		b = wire.Put(b, 2, m.Hold)
		b = wire.Put(b, 4, m.Id)
	case api.PvUpdate:
		b = updateOf(prefixesOf(m.Lost), attributesOf(m), prefixesOf(m.Have))
	case api.PvNotice:
		b = wire.Put(b, 1, m.Code)
	}
	return b
}

// updateOf joins the three parts of an update.
func updateOf(lost, attributes, have []byte) []byte {
	var b []byte
	b = putPiece(b, lost)
	b = putPiece(b, attributes)
	return append(b, have...)
}

// putPiece puts a piece behind b, and ahead of it how many bytes it has.
func putPiece(b, piece []byte) []byte { return append(wire.Put(b, 2, len(piece)), piece...) }

func prefixesOf(list []api.Prefix) []byte {
	var b []byte
	for _, p := range list {
		size := bytesOf(p.Len)
		b = wire.Put(b, 1, p.Len)
		b = wire.Put(b, size, int(p.Addr)>>(addrBits-byteBits*size))
	}
	return b
}

// attributesOf writes those that are there.
func attributesOf(m api.PvMessage) []byte {
	var b []byte
	put := func(kind, size int, there bool, numbers ...int) {
		if !there {
			return
		}
		var value []byte
		for _, n := range numbers {
			value = wire.Put(value, size, n)
		}
		b = putPiece(wire.Put(b, 1, kind), value)
	}
	r, has := m.Route, len(m.Have) > 0
	put(attrOrigin, 1, has, r.Origin)
	put(attrPath, 4, has, r.Path...)
	put(attrNext, 4, has, int(r.Next))
	put(attrMed, 4, r.Med != 0, r.Med)
	put(attrPref, 4, r.Pref != 0, r.Pref)
	put(attrMarks, 4, len(r.Marks) > 0, r.Marks...)
	put(attrAuthor, 4, r.Author != 0, r.Author)
	put(attrClusters, 4, len(r.Clusters) > 0, r.Clusters...)
	return b
}
