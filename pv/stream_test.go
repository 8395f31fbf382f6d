package pv_test

import (
	"math/rand"
	"slices"
	"testing"

	"wayfinder/api"
	"wayfinder/pv"
)

// modelStream looks at all bytes that have come, as if at once.
func modelStream(b []byte) (out []api.PvMessage, fault api.Errno, waiting int) {
	for {
		for i := 0; i < len(b) && i < 4; i++ {
			if b[i] != 255 {
				return out, api.ErrForm, 0
			}
		}
		if len(b) < 6 {
			return out, api.OK, len(b)
		}
		size := 256*int(b[4]) + int(b[5])
		if size < 9 || size > 1024 {
			return out, api.ErrLong, 0
		}
		if len(b) < size {
			return out, api.OK, len(b)
		}
		m, e := pv.Decode(b[:size])
		if e != api.OK {
			return out, e, 0
		}
		out, b = append(out, m), b[size:]
	}
}

// taken is a stream that is held against the model.
type taken struct {
	s        *pv.Stream
	all      []byte
	messages []api.PvMessage
}

func newTaken() *taken { return &taken{s: pv.NewStream()} }

// take hands in a piece, and answers the fault.
func (x *taken) take(t *testing.T, b []byte) api.Errno {
	t.Helper()
	_, ahead, _ := modelStream(x.all)
	got, e := x.s.Take(b)
	x.all, x.messages = append(x.all, b...), append(x.messages, got...)
	want, fault, waiting := modelStream(x.all)
	if e != fault || !slices.EqualFunc(x.messages, want, same) || x.s.Waiting() != waiting {
		t.Fatalf("%x and then %x: %d messages, %v, %d wait; must be %d, %v, %d", x.all[:len(x.all)-len(b)], b, len(x.messages), e, x.s.Waiting(), len(want), fault, waiting)
	}
	if ahead != api.OK && (e != ahead || len(got) > 0) {
		t.Fatalf("behind %v: %v and %d messages", ahead, e, len(got))
	}
	return e
}

// pieces hands all bytes in, in pieces of one to most bytes.
func (x *taken) pieces(t *testing.T, r *rand.Rand, b []byte, most int) (e api.Errno) {
	t.Helper()
	for len(b) > 0 {
		n := min(1+r.Intn(most), len(b))
		e = x.take(t, b[:n])
		b = b[n:]
		if r.Intn(4) == 0 {
			x.take(t, nil)
		}
	}
	return e
}

// drawBytes draws the bytes of a few messages.
func drawBytes(r *rand.Rand) []byte {
	var all []byte
	for range 1 + r.Intn(6) {
		if b := model(drawMessage(r)); len(b) <= 1024 {
			all = append(all, b...)
		}
	}
	return all
}

func TestJ4J5Pieces(t *testing.T) {
	r := rand.New(rand.NewSource(6))
	var all []byte
	for _, m := range append(oneOfEach(), asLong(1024, true), asLong(1023, false), anAlive()) {
		all = append(all, model(m)...)
	}
	for _, most := range []int{1, 2, 3, 9, 100, 1023, 1024, 5000} {
		x := newTaken()
		if e := x.pieces(t, r, all, most); e != api.OK || len(x.messages) != 10 || x.s.Waiting() != 0 {
			t.Errorf("%v, %d messages, %d wait", e, len(x.messages), x.s.Waiting())
		}
	}
	for range 300 {
		b := drawBytes(r)
		newTaken().take(t, b)
		newTaken().pieces(t, r, b, 1+r.Intn(300))
	}
}

// TestJ4J5AnyBytes: where bytes were disturbed, the same comes out, too, and the fault as soon as it is there.
func TestJ4J5AnyBytes(t *testing.T) {
	r := rand.New(rand.NewSource(7))
	counts := map[api.Errno]int{}
	for range 1500 {
		b := drawBytes(r)
		if len(b) == 0 {
			continue
		}
		switch r.Intn(5) {
		case 0:
			b = slices.Concat(b, seal(r.Intn(256), nil), b)
		case 1:
			b = slices.Concat(b, seal(2, []byte{0, 1}), b)
		case 2:
			b = slices.Delete(b, r.Intn(len(b)), len(b))
		default:
			b[r.Intn(len(b))] ^= byte(1 + r.Intn(255))
		}
		counts[newTaken().pieces(t, r, b, 1+r.Intn(60))]++
	}
	for _, e := range []api.Errno{api.OK, api.ErrForm, api.ErrLong, api.ErrSum, api.ErrKind} {
		if counts[e] < 10 {
			t.Errorf("too few of a kind: %v", counts)
		}
	}
}

func TestJ4AsSoonAs(t *testing.T) {
	steps := func(what string, want api.Errno, b []byte) {
		t.Helper()
		s := pv.NewStream()
		for i, c := range b {
			got, e := s.Take([]byte{c})
			ahead := i < len(b)-1
			if len(got) > 0 || ahead && (e != api.OK || s.Waiting() != i+1) || !ahead && (e != want || s.Waiting() != 0) {
				t.Errorf("%s: %x: behind byte %d %v, %d wait", what, b, i, e, s.Waiting())
			}
		}
	}
	mark := []byte{255, 255, 255, 255}
	for i := range 4 {
		for _, c := range []byte{0, 1, 254} {
			steps("the mark", api.ErrForm, append(slices.Clone(mark[:i]), c))
		}
	}
	for n := range 65536 {
		if n < 9 || n > 1024 {
			steps("the length", api.ErrLong, append(slices.Clone(mark), byte(n>>8), byte(n)))
		}
	}
	sum := model(aNotice())
	sum[9]++
	steps("the sum, not ahead of the last byte", api.ErrSum, sum)
	steps("the kind, not ahead of the last byte", api.ErrKind, seal(5, make([]byte, 50)))
	steps("the form, not ahead of the last byte", api.ErrForm, seal(3, make([]byte, 1015)))
	steps("the form, not ahead of the last byte", api.ErrForm, seal(1, nil))
}

func TestJ4BehindAFault(t *testing.T) {
	for _, c := range []struct {
		want api.Errno
		bad  []byte
	}{
		{api.ErrForm, []byte{255, 255, 7}},
		{api.ErrForm, seal(3, []byte{1})},
		{api.ErrLong, []byte{255, 255, 255, 255, 0, 3}},
		{api.ErrLong, []byte{255, 255, 255, 255, 4, 1}},
		{api.ErrSum, []byte{255, 255, 255, 255, 0, 9, 3, 0, 0}},
		{api.ErrKind, seal(0, nil)},
	} {
		s := pv.NewStream()
		alive, notice := model(anAlive()), model(aNotice())
		got, e := s.Take(slices.Concat(alive, notice, c.bad, alive, alive))
		if e != c.want || !slices.EqualFunc(got, []api.PvMessage{anAlive(), aNotice()}, same) || s.Waiting() != 0 {
			t.Errorf("%x: %+v %v, %d wait", c.bad, got, e, s.Waiting())
		}
		for _, b := range [][]byte{nil, {}, alive, {255}, {0}, notice, make([]byte, 3000), {255, 255, 255, 255, 0, 1}} {
			if got, e := s.Take(b); e != c.want || len(got) > 0 || s.Waiting() != 0 {
				t.Errorf("%x, then %x: %+v %v, %d wait", c.bad, b, got, e, s.Waiting())
			}
		}
	}
}

func TestJ4Waiting(t *testing.T) {
	s := pv.NewStream()
	long := model(asLong(1024, false))
	for range 3 {
		for i := range long {
			if s.Waiting() != i {
				t.Fatalf("%d wait, must be %d", s.Waiting(), i)
			}
			got, e := s.Take(long[i : i+1])
			if e != api.OK || (len(got) == 1) != (i == 1023) {
				t.Fatalf("byte %d: %d messages, %v", i, len(got), e)
			}
		}
	}
	if got, e := s.Take(nil); e != api.OK || len(got) != 0 || s.Waiting() != 0 {
		t.Errorf("nothing: %+v %v", got, e)
	}
}

// TestJ5OneByteOfMany: a message that was changed (not in its length, which says where the next one begins) is none, and those ahead of it come as they were sent.
func TestJ5OneByteOfMany(t *testing.T) {
	r := rand.New(rand.NewSource(8))
	for range 3000 {
		var sent []api.PvMessage
		var pieces [][]byte
		for range 4 {
			m := drawMessage(r)
			if b := model(m); len(b) <= 300 {
				sent, pieces = append(sent, m), append(pieces, b)
			}
		}
		if len(sent) == 0 {
			continue
		}
		which := r.Intn(len(sent))
		at := r.Intn(len(pieces[which]))
		if at == 4 || at == 5 {
			continue
		}
		pieces[which][at] ^= byte(1 + r.Intn(255))
		x := newTaken()
		e := x.pieces(t, r, slices.Concat(pieces...), 40)
		if e == api.OK || !slices.EqualFunc(x.messages, sent[:which], same) {
			t.Fatalf("%x, the message %d changed at %d: %+v %v, must be %+v", x.all, which, at, x.messages, e, sent[:which])
		}
	}
}

func TestJ4KeepsNoBytes(t *testing.T) {
	alive := model(anAlive())
	s := pv.NewStream()
	b := append(slices.Clone(alive), alive[:5]...)
	s.Take(b)
	clear(b)
	rest := slices.Clone(alive[5:])
	if got, e := s.Take(rest); e != api.OK || len(got) != 1 {
		t.Errorf("%+v %v: what was handed in was kept", got, e)
	}
	clear(rest)
	if got, e := s.Take(alive); e != api.OK || len(got) != 1 {
		t.Errorf("%+v %v: what was handed in was kept", got, e)
	}
}
