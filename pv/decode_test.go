package pv_test

import (
	"math/rand"
	"slices"
	"testing"

	"wayfinder/api"
	"wayfinder/pv"
)

// piece cuts a piece with its count off the front of bytes.
func piece(b []byte) (cut, rest []byte, ok bool) {
	if len(b) < 2 {
		return nil, nil, false
	}
	size := 256*int(b[0]) + int(b[1])
	if len(b) < 2+size {
		return nil, nil, false
	}
	return b[2 : 2+size], b[2+size:], true
}

func value(b []byte) int {
	n := 0
	for _, c := range b {
		n = 256*n + int(c)
	}
	return n
}

func modelPrefixes(b []byte) (out []api.Prefix, ok bool) {
	for len(b) > 0 {
		p := at(0, int(b[0]))
		b = b[1:]
		if p.Len > 32 {
			return nil, false
		}
		for i := range p.Len {
			if i/8 >= len(b) {
				return nil, false
			}
			p.Addr |= uint32(b[i/8]>>(7-i%8)&1) << (31 - i)
		}
		size := (p.Len + 7) / 8
		if size > 0 && p.Len%8 > 0 && b[size-1]<<(p.Len%8) != 0 {
			return nil, false
		}
		b = b[size:]
		if len(out) > 0 && int(out[len(out)-1].Addr)*64+out[len(out)-1].Len >= int(p.Addr)*64+p.Len {
			return nil, false
		}
		out = append(out, p)
	}
	return out, true
}

func modelNumbers(b []byte, least, most int) (out []int, ok bool) {
	if len(b)%4 != 0 || len(b)/4 > most {
		return nil, false
	}
	for ; len(b) > 0; b = b[4:] {
		if out = append(out, value(b[:4])); value(b[:4]) < least {
			return nil, false
		}
	}
	return out, true
}

// modelAttribute puts one into a route, if it may be there.
func modelAttribute(r *api.Route, kind int, b []byte) (ok bool) {
	number := len(b) == 4 && value(b) > 0
	switch kind {
	case 1:
		r.Origin = value(b)
		return len(b) == 1 && r.Origin <= 2
	case 2:
		r.Path, ok = modelNumbers(b, 1, 64)
		return ok
	case 3:
		r.Next = uint32(value(b))
		return len(b) == 4
	case 4:
		r.Med = value(b)
		return number
	case 5:
		r.Pref = value(b)
		return number
	case 6:
		r.Marks, ok = modelNumbers(b, 0, 32)
		return ok && len(b) > 0 && slices.IsSorted(r.Marks) && len(slices.Compact(slices.Clone(r.Marks))) == len(r.Marks)
	case 7:
		r.Author = value(b)
		return number
	case 8:
		r.Clusters, ok = modelNumbers(b, 0, 32)
		return ok && len(b) > 0
	}
	return kind >= 128 && kind <= 191
}

// modelUpdate reads an update rule by rule, and never writes it again.
func modelUpdate(body []byte) (m api.PvMessage, ok bool) {
	lost, body, ok := piece(body)
	if !ok {
		return m, false
	}
	attributes, have, ok := piece(body)
	if !ok {
		return m, false
	}
	m.Kind = api.PvUpdate
	var right [2]bool
	m.Lost, right[0] = modelPrefixes(lost)
	m.Have, right[1] = modelPrefixes(have)
	if !right[0] || !right[1] || slices.ContainsFunc(m.Lost, func(p api.Prefix) bool { return slices.Contains(m.Have, p) }) {
		return m, false
	}
	known, last := 0, 0
	for len(attributes) > 0 {
		kind := int(attributes[0])
		b, rest, ok := piece(attributes[1:])
		if !ok || kind <= last || !modelAttribute(&m.Route, kind, b) {
			return m, false
		}
		if last, attributes = kind, rest; kind <= 3 {
			known++
		} else if kind <= 8 && len(m.Have) == 0 {
			return m, false
		}
	}
	return m, len(m.Have) > 0 && known == 3 || len(m.Have) == 0 && known == 0
}

// judged holds Decode against the model for the body of an update, and says whether it is one.
func judged(t *testing.T, what string, body []byte) bool {
	t.Helper()
	want, ok := modelUpdate(body)
	if ok {
		read(t, what, want, seal(2, body))
	} else {
		unread(t, what, api.ErrForm, seal(2, body))
	}
	return ok
}

// some is an update's lists and attributes, apart.
func some(m api.PvMessage) (lost []byte, attributes [][]byte, have []byte) {
	return layPrefixes(m.Lost), layAttributes(m), layPrefixes(m.Have)
}

func TestJ3Frame(t *testing.T) {
	for _, m := range oneOfEach() {
		b := model(m)
		for n := range b {
			unread(t, "cut off", api.ErrForm, b[:n])
		}
		unread(t, "a byte more", api.ErrForm, append(slices.Clone(b), 0))
		unread(t, "two of them", api.ErrForm, slices.Concat(b, b))
		unread(t, "a byte ahead", api.ErrForm, append([]byte{0}, b...))
		for i := range 4 {
			for _, c := range []byte{0, 1, 127, 254} {
				x := slices.Clone(b)
				x[i] = c
				unread(t, "the mark", api.ErrForm, x)
			}
		}
		for n := range 65536 {
			want := api.ErrLong
			switch {
			case n == len(b):
				continue
			case n >= 9 && n <= 1024:
				want = api.ErrForm
			}
			x := slices.Clone(b)
			x[4], x[5] = byte(n>>8), byte(n)
			unread(t, "the length", want, x)
		}
		for i := range 16 {
			x := slices.Clone(b)
			x[7+i/8] ^= 1 << (i % 8)
			unread(t, "the sum", api.ErrSum, x)
		}
	}
	unread(t, "nothing", api.ErrForm, nil)
	unread(t, "far too many bytes", api.ErrForm, append(model(anAlive()), make([]byte, 1<<20)...))
	around := append(model(anAlive()), make([]byte, 65536)...)
	unread(t, "the length comes round", api.ErrForm, around)
}

// TestJ3First: of several faults the answer is the one that is named first.
func TestJ3First(t *testing.T) {
	faults := []struct {
		e   api.Errno
		set func(b []byte) []byte
	}{
		{api.ErrForm, func(b []byte) []byte { b[3] = 9; return b }},
		{api.ErrLong, func(b []byte) []byte { b[4] = 5; return b }},
		{api.ErrForm, func(b []byte) []byte { return append(b, 0) }},
		{api.ErrSum, func(b []byte) []byte { b[7] ^= 1; return b }},
	}
	for _, kind := range []int{1, 9} {
		for set := range 1 << len(faults) {
			b, want := seal(kind, []byte{2}), api.ErrForm
			if kind == 9 {
				want = api.ErrKind
			}
			for i := len(faults) - 1; i >= 0; i-- {
				if set>>i&1 == 1 {
					b = faults[i].set(b)
					want = faults[i].e
				}
			}
			unread(t, "the first", want, b)
		}
	}
	unread(t, "short, and of a wrong length", api.ErrForm, []byte{255, 255, 255, 255, 9, 9, 3, 0})
	for size := range 9 {
		b := append([]byte{255, 255, 255, 255, 0, byte(size), 3}, 0, 0)
		unread(t, "a length below 9", api.ErrLong, b)
		unread(t, "a length below 9 that is right", api.ErrForm, b[:size])
	}
}

func TestJ3Kind(t *testing.T) {
	for kind := range 256 {
		if kind < 1 || kind > 4 {
			unread(t, "kind", api.ErrKind, seal(kind, nil))
			unread(t, "kind, ahead of the form", api.ErrKind, seal(kind, []byte{0, 9, 1}))
		}
	}
}

func TestJ3Open(t *testing.T) {
	for _, m := range []api.PvMessage{anOpen(), {Kind: api.PvOpen, Domain: 1, Id: 1}, {Kind: api.PvOpen, Domain: top, Id: top, Hold: 65535}, {Kind: api.PvOpen, Domain: 1, Id: 1, Hold: 3}} {
		read(t, "an open", m, model(m))
		body := lay(m)
		for n := range body {
			unread(t, "cut off", api.ErrForm, seal(1, body[:n]))
		}
		unread(t, "a byte more", api.ErrForm, seal(1, append(slices.Clone(body), 0)))
		for version := range 256 {
			if body[0] = byte(version); version != 1 {
				unread(t, "the first byte", api.ErrForm, seal(1, body))
			}
		}
	}
	for _, m := range []api.PvMessage{{Id: 1}, {Domain: 1}, {Domain: 1, Id: 1, Hold: 1}, {Domain: 1, Id: 1, Hold: 2}, {}} {
		m.Kind = api.PvOpen
		unread(t, "range", api.ErrForm, model(m))
	}
}

func TestJ3AliveAndNotice(t *testing.T) {
	for code := range 256 {
		m := api.PvMessage{Kind: api.PvNotice, Code: code}
		read(t, "a notice", m, model(m))
		unread(t, "a byte more", api.ErrForm, seal(4, []byte{byte(code), 0}))
		unread(t, "an alive with a byte", api.ErrForm, seal(3, []byte{byte(code)}))
	}
	unread(t, "no code", api.ErrForm, seal(4, nil))
	read(t, "an alive", anAlive(), seal(3, nil))
}

func TestJ3CutOff(t *testing.T) {
	r := rand.New(rand.NewSource(3))
	for i := range 200 {
		m := anUpdate()
		if i > 0 {
			m = drawUpdate(r)
		}
		body := lay(m)
		if len(body) > 1000 {
			continue
		}
		for n := range body {
			judged(t, "cut off", body[:n])
		}
		judged(t, "a byte more", append(slices.Clone(body), 0))
		for _, at := range []int{0, 1} {
			x := slices.Clone(body)
			for n := range 256 {
				x[at] = byte(n)
				judged(t, "how many bytes are lost", x)
			}
		}
	}
}

func TestJ3Prefixes(t *testing.T) {
	for length := range 256 {
		for size := range 6 {
			b := append([]byte{byte(length)}, 0x80, 0, 0, 0, 0)[:1+size]
			ok := judged(t, "lost", parts(b, nil, nil))
			want := length <= 32 && size == (length+7)/8
			if length == 0 && size == 1 {
				want = false // it is a prefix and then one of 128 bits
			}
			if ok != want {
				t.Errorf("%x: %v", b, ok)
			}
			judged(t, "have", parts(nil, slices.Concat(layAttributes(anUpdate())...), b))
		}
	}
	for i := range 32 {
		for length := range 33 {
			b := append([]byte{byte(length)}, four(1 << i)[:(length+7)/8]...)
			judged(t, "bits behind", parts(b, nil, nil))
		}
	}
	zero, ten, half := []byte{0}, []byte{8, 10}, []byte{1, 128}
	know := slices.Concat(layAttributes(anUpdate())...)
	for _, c := range []struct {
		lost, have [][]byte
		want       bool
	}{
		{[][]byte{zero, ten}, [][]byte{half}, true},
		{[][]byte{ten}, [][]byte{zero, half}, true},
		{[][]byte{ten, zero}, [][]byte{half}, false},
		{[][]byte{zero}, [][]byte{half, ten}, false},
		{[][]byte{ten, ten}, [][]byte{half}, false},
		{[][]byte{zero, ten}, [][]byte{ten, half}, false},
		{[][]byte{zero}, [][]byte{zero}, false},
	} {
		if ok := judged(t, "two lists", parts(slices.Concat(c.lost...), know, slices.Concat(c.have...))); ok != c.want {
			t.Errorf("%v: %v", c, ok)
		}
	}
}

func TestJ3EachAttribute(t *testing.T) {
	lost, l, have := some(anUpdate())
	body := func(l ...[]byte) []byte { return parts(lost, slices.Concat(l...), have) }
	if !judged(t, "as it is", body(l...)) {
		t.Fatal("it is right")
	}
	for i := range l {
		without := slices.Delete(slices.Clone(l), i, i+1)
		if ok := judged(t, "without one", body(without...)); ok != (i >= 3) {
			t.Errorf("without %d: %v", i+1, ok)
		}
		if judged(t, "one of them twice", body(slices.Insert(slices.Clone(l), i, l[i])...)) {
			t.Errorf("%d twice was taken", i+1)
		}
		if judged(t, "without have", parts(lost, l[i], nil)) {
			t.Errorf("%d was taken without a prefix", i+1)
		}
		for k := range l {
			if x := slices.Clone(l); i != k {
				x[i], x[k] = x[k], x[i]
				if judged(t, "not rising", body(x...)) {
					t.Errorf("%d and %d changed were taken", i+1, k+1)
				}
			}
		}
		for size := range 300 {
			x := slices.Clone(l)
			x[i] = attribute(i+1, make([]byte, size)...)
			judged(t, "noughts", body(x...))
			x[i] = attribute(i+1, slices.Repeat([]byte{0, 0, 0, 1}, 75)[:size]...)
			judged(t, "ones", body(x...))
		}
	}
	if judged(t, "none of them", parts(lost, nil, have)) || !judged(t, "none of them, nor a prefix", parts(lost, nil, nil)) {
		t.Error("attributes are there just with prefixes")
	}
}

// TestJ3Values: what Encode would not write is none, though its numbers can be read.
func TestJ3Values(t *testing.T) {
	lost, l, have := some(anUpdate())
	for _, c := range []struct {
		attribute []byte
		want      bool
	}{
		{attribute(1, 0), true}, {attribute(1, 2), true}, {attribute(1, 3), false}, {attribute(1, 255), false},
		{attribute(2), true}, {attribute(2, four(0)...), false}, {attribute(2, four(1, 0, 1)...), false}, {attribute(2, four(upTo(64)...)...), true}, {attribute(2, four(upTo(65)...)...), false},
		{attribute(3, four(0)...), true}, {attribute(3, four(top)...), true},
		{attribute(4, four(0)...), false}, {attribute(4, four(top)...), true},
		{attribute(5, four(0)...), false}, {attribute(5, four(1)...), true},
		{attribute(6), false}, {attribute(6, four(0)...), true}, {attribute(6, four(1, 1)...), false}, {attribute(6, four(2, 1)...), false}, {attribute(6, four(upTo(32)...)...), true}, {attribute(6, four(upTo(33)...)...), false},
		{attribute(7, four(0)...), false}, {attribute(7, four(1)...), true},
		{attribute(8), false}, {attribute(8, four(0, 0)...), true}, {attribute(8, four(upTo(32)...)...), true}, {attribute(8, four(upTo(33)...)...), false},
	} {
		x := slices.Clone(l)
		x[c.attribute[0]-1] = c.attribute
		if ok := judged(t, "a value", parts(lost, slices.Concat(x...), have)); ok != c.want {
			t.Errorf("%x: %v", c.attribute, ok)
		}
	}
}

func TestJ3Passed(t *testing.T) {
	m := anUpdate()
	lost, l, have := some(m)
	known := slices.Concat(l...)
	for kind := range 256 {
		for size := range 12 {
			x := attribute(kind, slices.Repeat([]byte{9}, size)...)
			passed := kind >= 128 && kind <= 191
			if ok := judged(t, "behind the others", parts(lost, slices.Concat(known, x), have)); ok != passed {
				t.Errorf("%x behind the others: %v", x, ok)
			}
			if ok := judged(t, "alone", parts(lost, x, nil)); ok != passed {
				t.Errorf("%x alone: %v", x, ok)
			}
			for i := range l {
				between := slices.Insert(slices.Clone(l), i, x)
				if judged(t, "ahead of another", parts(lost, slices.Concat(between...), have)) {
					t.Errorf("%x ahead of %d was taken", x, i+1)
				}
			}
		}
	}
	for _, c := range []struct {
		kinds []int
		want  bool
	}{
		{[]int{128, 191}, true}, {[]int{128, 129, 150, 190, 191}, true}, {[]int{191, 128}, false}, {[]int{150, 150}, false},
		{[]int{150, 151, 150}, false}, {[]int{128, 192}, false}, {[]int{127, 128}, false}, {[]int{128, 129, 8}, false},
	} {
		b := slices.Clone(known)
		for i, kind := range c.kinds {
			b = append(b, attribute(kind, make([]byte, 3*i)...)...)
		}
		if ok := judged(t, "several", parts(lost, b, have)); ok != c.want {
			t.Errorf("%v: %v", c.kinds, ok)
		}
	}
	for size := 880; size < 1000; size++ {
		x := attribute(140, make([]byte, size)...)
		b := seal(2, parts(lost, slices.Concat(known, x), have))
		if len(b) > 1024 {
			unread(t, "too long with what is passed over", api.ErrLong, b)
		} else {
			read(t, "long with what is passed over", m, b)
		}
	}
	whole := slices.Concat(known, attribute(140, 1, 2, 3))
	for n := len(known) + 1; n < len(whole); n++ {
		unread(t, "cut off in what is passed over", api.ErrForm, seal(2, parts(lost, whole[:n], have)))
	}
}

// TestJ3AgainstModel disturbs updates in a few places, and mends the sum.
func TestJ3AgainstModel(t *testing.T) {
	r := rand.New(rand.NewSource(4))
	counts := map[bool]int{}
	for range 60000 {
		lost, l, have := some(drawUpdate(r))
		for range r.Intn(3) {
			l = append(l, attribute(edge(r, 128, 191), make([]byte, r.Intn(9))...))
		}
		if r.Intn(3) == 0 && len(l) > 1 {
			i, k := r.Intn(len(l)), r.Intn(len(l))
			l[i], l[k] = l[k], l[i]
		}
		body := parts(lost, slices.Concat(l...), have)
		for range r.Intn(3) {
			body[r.Intn(len(body))] ^= 1 << r.Intn(8)
		}
		if len(body) <= 1015 {
			counts[judged(t, "disturbed", body)]++
		}
	}
	if counts[true] < 5000 || counts[false] < 5000 {
		t.Errorf("too few of a kind: %v", counts)
	}
}

func TestJ5OneByte(t *testing.T) {
	r := rand.New(rand.NewSource(5))
	messages := append(oneOfEach(), asLong(1024, true))
	for range 10 {
		messages = append(messages, drawMessage(r))
	}
	for _, m := range messages {
		b := model(m)
		if len(b) > 1024 {
			continue
		}
		for i := range b {
			for x := 1; x < 256; x++ {
				b[i] ^= byte(x)
				if got, e := pv.Decode(b); e == api.OK || !same(got, api.PvMessage{}) {
					t.Fatalf("%x, with byte %d changed, was taken as %+v", b, i, got)
				}
				b[i] ^= byte(x)
			}
		}
		read(t, "as it was", m, b)
	}
}
