package router

import (
	"slices"

	"wayfinder/api"
	"wayfinder/fib"
	"wayfinder/wire"
)

// addrSize is how many bytes an address takes; dataHead how many stand ahead of the data in what a frame carries.
const (
	addrSize = 4
	dataHead = addrSize + 1
)

// lostWay is where the forwarding memory leads an address that no prefix holds.
const lostWay = 0

// write carries out what the table says.
func (r *Router) write(writes []api.Write) {
	for _, w := range writes {
		if missing := w.At + 1 - len(r.memory); missing > 0 {
			r.memory = append(r.memory, make([]uint32, missing)...)
		}
		r.memory[w.At] = w.Word
	}
}

// receiveData takes what a frame with data has behind its kind.
func (r *Router) receiveData(b []byte) api.Errno {
	if len(b) < dataHead || len(b) > dataHead+api.MaxData {
		return api.ErrForm
	}
	r.forward(uint32(wire.Number(b[:addrSize])), int(b[addrSize]), b[dataHead:])
	return api.OK
}

// forward lets data go on to an address, as often as it may, or arrive.
func (r *Router) forward(to uint32, times int, b []byte) {
	way := fib.Find(r.memory, to)
	if way == lostWay {
		return
	}
	links := r.table.Links(way)
	switch {
	case len(links) == 0:
		r.come = append(r.come, api.Arrived{To: to, Bytes: slices.Clone(b)})
	case times > 1:
		head := wire.Put(wire.Put(nil, addrSize, int(to)), 1, times-1)
		r.send(links[int(to)%len(links)], api.FrameData, slices.Concat(head, b))
	}
}
