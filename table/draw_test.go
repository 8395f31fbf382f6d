package table_test

import (
	"math/rand"
	"slices"
	"testing"

	"wayfinder/api"
)

// drawing draws what a table is handed, of few prefixes, next hops and links, so that they meet.
type drawing struct{ *rand.Rand }

func drawn(seed int64) drawing { return drawing{rand.New(rand.NewSource(seed))} }

func one[T any](d drawing, of ...T) T { return of[d.Intn(len(of))] }

// pool are prefixes of which most lie within others.
var pool = []api.Prefix{every, pre(0, 1), pre(0, 29), seven, eight, pre(8, 29), ten, tenLow, tenOne, pre(0x0a010000, 17), pre(0x0a010001, 32), pre(0x0a800000, 9), eleven, pre(0x0b000000, 31), twelve, pre(0x80000000, 1), last}

func (d drawing) prefix() api.Prefix {
	if d.Intn(30) == 0 {
		return one(d, invalid...)
	}
	return one(d, pool...)
}

func (d drawing) next() uint32 {
	return one[uint32](d, 0, 7, 8, 9, 0x0a000001, 0x0a010001, 0x0a800000, 0x0b000001, 0x0c000001, 0xffffffff)
}

func (d drawing) links() []int {
	var out []int
	for range d.Intn(4) {
		out = append(out, one(d, 0, 1, 2, 2, 3, 256, 65535))
	}
	if d.Intn(40) == 0 {
		out = append(out, one(d, -1, 65536))
	}
	return out
}

func (d drawing) ways() []api.Way {
	var out []api.Way
	for range d.Intn(14) {
		out = append(out, way(d.prefix(), one(d, 1, 2, 2, 2, 3, 4, 4, 5), d.Intn(20)-1, d.links()...))
	}
	return out
}

func (d drawing) fixed() []api.Fixed {
	var out []api.Fixed
	for range d.Intn(6) {
		f := api.Fixed{Prefix: d.prefix(), Links: d.links()}
		if d.Intn(15) > 0 {
			slices.Sort(f.Links)
			f.Links = slices.Compact(f.Links)
		}
		if len(f.Links) == 0 || d.Intn(30) == 0 {
			f.Next = d.next()
		}
		if !slices.ContainsFunc(out, func(g api.Fixed) bool { return g.Prefix == f.Prefix }) || d.Intn(30) == 0 {
			out = append(out, f)
		}
	}
	return out
}

func (d drawing) offers() []api.Offer {
	var out []api.Offer
	for range d.Intn(10) {
		out = append(out, api.Offer{Route: api.Route{Prefix: d.prefix(), Next: d.next()}, Peer: one(d, -1, 0, 1, 2, 3, 4), Inner: d.Intn(2) == 0, Cost: d.Intn(20) - 1})
	}
	return out
}

// TestM1ToM6Drawn: whatever a table is handed, in whatever order, is held to what the document says of it.
func TestM1ToM6Drawn(t *testing.T) {
	refused, most := 0, 0
	for seed := range int64(150) {
		d := drawn(seed)
		g := made(t, 0x0a010000, 0x0a008000, 0x0b000000, 0x0b000002, 0x0fffffff, 0x7fffffff, 0x80000000, 15, 16)
		for range 40 {
			switch d.Intn(3) {
			case 0:
				g.takeWays(d.ways()...)
			case 1:
				l := d.fixed()
				if check(l) != api.OK {
					refused++
				}
				g.takeFixed(l...)
			default:
				g.takeOffers(d.offers()...)
			}
			most = max(most, len(g.book.rows))
		}
	}
	if refused < 50 || most < 10 {
		t.Errorf("%d lists were refused, and there were at most %d rows", refused, most)
	}
}
