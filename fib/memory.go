package fib

import (
	"wayfinder/api"
	"wayfinder/bit"
	"wayfinder/pfx"
)

// How the words lie: the one at place top has the number of the first node, and node n the nodeWords words from place n·nodeWords on. Nodes are numbered from 1 on; the number none leads nowhere, as a word that was never written does.
const (
	top       = 0
	none      = 0
	nodeWords = 4
)

// The words of a node, by their place in it.
const (
	headWord = iota // the length of its prefix, and in its last wayBits bits the way
	addrWord        // the address of its prefix
	zeroWord        // the number of the node below for addresses whose next bit is 0
	oneWord         // and of that for those whose next bit is 1
)

// wayBits is how many bits a way takes, mostWay the greatest way.
const (
	wayBits = 16
	mostWay = 1<<wayBits - 1
)

// addrBits is how many bits an address has.
const addrBits = 32

// place is where a word of node n lies.
func place(n uint32, word int) int { return int(n)*nodeWords + word }

// node is a prefix that leads to a way, or below which the ways to two others part (only such prefixes have a node). Its way is 0 if it does not lead to one itself.
type node struct {
	at  api.Prefix
	way int
	sub [2]uint32 // the nodes below, by the first bit behind at
}

// head is the node's first word.
func (d node) head() uint32 { return uint32(d.at.Len)<<wayBits | uint32(d.way) }

// parts reads a node's first word.
func parts(head uint32) (length, way int) { return int(head >> wayBits), int(head & mostWay) }

// hang lets n, the node of p, lie below d.
func (d *node) hang(n uint32, p api.Prefix) { d.sub[bit.After(p.Addr, d.at.Len)] = n }

// writes makes d node n.
func (d node) writes(n uint32) []api.Write {
	return []api.Write{
		{At: place(n, headWord), Word: d.head()},
		{At: place(n, addrWord), Word: d.at.Addr},
		{At: place(n, zeroWord), Word: d.sub[0]},
		{At: place(n, oneWord), Word: d.sub[1]},
	}
}

// memory is words; those beyond its end are 0.
type memory []uint32

func (m memory) word(at int) uint32 {
	if at < len(m) {
		return m[at]
	}
	return 0
}

// node reads node n.
func (m memory) node(n uint32) node {
	length, way := parts(m.word(place(n, headWord)))
	return node{
		at:  api.Prefix{Addr: m.word(place(n, addrWord)), Len: length},
		way: way,
		sub: [2]uint32{m.word(place(n, zeroWord)), m.word(place(n, oneWord))},
	}
}

// put carries out a write.
func (m *memory) put(w api.Write) {
	if missing := w.At + 1 - len(*m); missing > 0 {
		*m = append(*m, make([]uint32, missing)...)
	}
	(*m)[w.At] = w.Word
}

// descend goes down the memory to a, tells each place that it reads, and answers the way to which that leads.
//
// A node that is just one bit longer than the one above it is known to hold a by the link that led to it, so that its address is only read where bits were skipped: that is two words for one bit or three for several, and no more than 67 in all. Lengths that do not rise are no table's; to stop there lets it end over any memory.
func (m memory) descend(a uint32, tell func(at int)) int {
	read := func(at int) uint32 {
		tell(at)
		return m.word(at)
	}
	way, sure := 0, 0 // sure: so many bits of a are those of the next node
	for link := top; ; {
		n := read(link)
		if n == none {
			return way
		}
		length, own := parts(read(place(n, headWord)))
		if length < sure || length > addrBits {
			return way
		}
		if length > sure && !pfx.Has(api.Prefix{Addr: read(place(n, addrWord)), Len: length}, a) {
			return way
		}
		if own != 0 {
			way = own
		}
		link, sure = place(n, zeroWord+bit.After(a, length)), length+1
	}
}
