package pv_test

import (
	"bytes"
	"encoding/hex"
	"math/rand"
	"slices"
	"strings"
	"testing"

	"wayfinder/api"
)

func TestJ1Bytes(t *testing.T) {
	for _, c := range []struct {
		m    api.PvMessage
		want string
	}{
		{anAlive(), "ffffffff 0009 03 d193"},
		{api.PvMessage{Kind: api.PvOpen, Domain: 1, Id: top, Hold: 90}, "ffffffff 0014 01 2df7 01 00000001 005a ffffffff"},
		{api.PvMessage{Kind: api.PvNotice, Code: 255}, "ffffffff 000a 04 cf3b ff"},
		{api.PvMessage{Kind: api.PvUpdate}, "ffffffff 000d 02 558f 0000 0000"},
		{api.PvMessage{Kind: api.PvUpdate, Lost: []api.Prefix{{}}}, "ffffffff 000e 02 f3e4 0001 00 0000"},
		{api.PvMessage{Kind: api.PvUpdate, Have: []api.Prefix{at(0, 1)}},
			"ffffffff 001d 02 6354 0000 000e 01 0001 00 02 0000 03 0004 00000000 0100"},
		{api.PvMessage{Kind: api.PvUpdate, Lost: []api.Prefix{at(0x01020304, 32), at(0x05060000, 16)}, Have: []api.Prefix{at(0x08090a00, 24), at(0x0b0c0d80, 25), at(0x80000000, 1)},
			Route: api.Route{Path: []int{0x11121314, 0x15161718}, Origin: 1, Next: 0x191a1b1c, Med: 0x21222324, Pref: 0x25262728, Marks: []int{0x292a2b2c}, Author: 0x2d2e2f30, Clusters: []int{0x31323334, 0x01000000}}},
			"ffffffff 005d 02 7700 0008 2001020304 100506 003d 01 0001 01 02 0008 1112131415161718 03 0004 191a1b1c 04 0004 21222324 05 0004 25262728 06 0004 292a2b2c 07 0004 2d2e2f30 08 0008 3132333401000000 1808090a 190b0c0d80 0180"},
	} {
		text := strings.ReplaceAll(c.want, " ", "")
		b := encoded(t, c.m)
		is := hex.EncodeToString(b)
		if is != text {
			t.Errorf("Encode %+v:\n%s, must be\n%s", c.m, is, text)
		}
		if want := model(c.m); !bytes.Equal(b, want) {
			t.Errorf("Encode %+v:\n%x, must be\n%x", c.m, b, want)
		}
	}
}

func TestJ1Sum(t *testing.T) {
	if n := sum([]byte("123456789")); n != 0x29b1 {
		t.Fatalf("the model's sum is %x", n)
	}
	r := rand.New(rand.NewSource(1))
	for range 500 {
		m := drawMessage(r)
		if len(model(m)) > api.MaxPv {
			continue
		}
		b := encoded(t, m)
		if want := sum(append([]byte{b[6]}, b[9:]...)); int(b[7])*256+int(b[8]) != want {
			t.Fatalf("the sum of %x must be %x", b, want)
		}
	}
}

func TestJ1J2J3AgainstModel(t *testing.T) {
	r := rand.New(rand.NewSource(2))
	long := 0
	for range 20000 {
		m := drawMessage(r)
		want := model(m)
		if len(want) > api.MaxPv {
			long++
			refused(t, "too long", api.ErrLong, m)
			continue
		}
		if b := encoded(t, m); !bytes.Equal(b, want) {
			t.Fatalf("Encode %+v:\n%x, must be\n%x", m, b, want)
		}
		read(t, "what was written", m, want)
	}
	if long > 1000 {
		t.Errorf("%d were too long", long)
	}
}

// TestJ1EachAttribute: one is there just when its field asks for it.
func TestJ1EachAttribute(t *testing.T) {
	for set := range 1 << 5 {
		m := api.PvMessage{Kind: api.PvUpdate, Have: []api.Prefix{{}}}
		want := slices.Concat(attribute(1, 0), attribute(2), attribute(3, 0, 0, 0, 0))
		if set&1 != 0 {
			m.Route.Med = 1
			want = append(want, attribute(4, 0, 0, 0, 1)...)
		}
		if set&2 != 0 {
			m.Route.Pref = 2
			want = append(want, attribute(5, 0, 0, 0, 2)...)
		}
		if set&4 != 0 {
			m.Route.Marks = []int{0}
			want = append(want, attribute(6, 0, 0, 0, 0)...)
		}
		if set&8 != 0 {
			m.Route.Author = 3
			want = append(want, attribute(7, 0, 0, 0, 3)...)
		}
		if set&16 != 0 {
			m.Route.Clusters = []int{0, 0}
			want = append(want, attribute(8, 0, 0, 0, 0, 0, 0, 0, 0)...)
		}
		whole := seal(2, parts(nil, want, []byte{0}))
		if b := encoded(t, m); !bytes.Equal(b, whole) {
			t.Errorf("Encode %+v:\n%x, must be\n%x", m, b, whole)
		}
		read(t, "some attributes", m, whole)
	}
}

func TestJ2Kind(t *testing.T) {
	for _, kind := range append([]int{0, 5, 6, 255, 256, 257, 258, 259, 260}, beyond...) {
		refused(t, "kind", api.ErrKind, api.PvMessage{Kind: kind})
		for _, m := range oneOfEach() {
			refused(t, "kind", api.ErrKind, turn(m, func(m *api.PvMessage) { m.Kind = kind }))
		}
	}
	for _, m := range oneOfEach() {
		refused(t, "as it is", api.OK, m)
	}
}

// fields are all of a message but its kind; each is set to what is not 0, right or not.
var fields = []struct {
	name  string
	kinds string // those that have it
	set   func(*api.PvMessage)
}{
	{"domain", "1", func(m *api.PvMessage) { m.Domain = 1 }},
	{"domain below 0", "1", func(m *api.PvMessage) { m.Domain = -1 }},
	{"id", "1", func(m *api.PvMessage) { m.Id = 1 }},
	{"id that is too great", "1", func(m *api.PvMessage) { m.Id = 1 << 32 }},
	{"hold", "1", func(m *api.PvMessage) { m.Hold = 3 }},
	{"hold of 1", "1", func(m *api.PvMessage) { m.Hold = 1 }},
	{"code", "4", func(m *api.PvMessage) { m.Code = 1 }},
	{"code that is too great", "4", func(m *api.PvMessage) { m.Code = 256 }},
	{"lost", "2", func(m *api.PvMessage) { m.Lost = []api.Prefix{{}} }},
	{"lost that is not valid", "2", func(m *api.PvMessage) { m.Lost = []api.Prefix{at(1, 0)} }},
	{"have", "2", func(m *api.PvMessage) { m.Have = []api.Prefix{at(0, 1)} }},
	{"the route's address", "", func(m *api.PvMessage) { m.Route.Prefix.Addr = 1 << 31 }},
	{"the route's length", "", func(m *api.PvMessage) { m.Route.Prefix.Len = 1 }},
	{"path", "", func(m *api.PvMessage) { m.Route.Path = []int{1} }},
	{"path of 0", "", func(m *api.PvMessage) { m.Route.Path = []int{0} }},
	{"origin", "", func(m *api.PvMessage) { m.Route.Origin = 1 }},
	{"origin that is too great", "", func(m *api.PvMessage) { m.Route.Origin = 3 }},
	{"pref", "", func(m *api.PvMessage) { m.Route.Pref = 1 }},
	{"med", "", func(m *api.PvMessage) { m.Route.Med = 1 }},
	{"med below 0", "", func(m *api.PvMessage) { m.Route.Med = -1 }},
	{"next", "", func(m *api.PvMessage) { m.Route.Next = 1 }},
	{"marks", "", func(m *api.PvMessage) { m.Route.Marks = []int{0} }},
	{"clusters", "", func(m *api.PvMessage) { m.Route.Clusters = []int{0} }},
	{"author", "", func(m *api.PvMessage) { m.Route.Author = 1 }},
}

func TestJ2Form(t *testing.T) {
	for _, m := range []api.PvMessage{{Kind: api.PvOpen, Domain: 1, Id: 1}, {Kind: api.PvUpdate}, {Kind: api.PvUpdate, Lost: []api.Prefix{at(0, 2)}}, anAlive(), {Kind: api.PvNotice}} {
		refused(t, "as it is", api.OK, m)
		for _, f := range fields {
			if !strings.ContainsRune(f.kinds, rune('0'+m.Kind)) {
				refused(t, f.name, api.ErrForm, turn(m, f.set))
			}
		}
		empty := turn(m, func(m *api.PvMessage) {
			m.Have, m.Route.Path, m.Route.Marks, m.Route.Clusters = []api.Prefix{}, []int{}, []int{}, []int{}
		})
		refused(t, "empty lists", api.OK, empty)
	}
	have := api.PvMessage{Kind: api.PvUpdate, Have: []api.Prefix{{}}}
	for _, p := range []api.Prefix{at(0, 1), at(1, 0), at(0, -1), at(0x0a000000, 8)} {
		refused(t, "the route's own prefix", api.ErrForm, turn(have, func(m *api.PvMessage) { m.Route.Prefix = p }))
		refused(t, "the route's own prefix", api.ErrForm, turn(anUpdate(), func(m *api.PvMessage) { m.Route.Prefix = p }))
	}
}

func TestJ2Bits(t *testing.T) {
	for _, p := range []api.Prefix{at(1, 0), at(0, -1), at(0, 33), at(1, 31), at(0x0a000001, 8), at(0x80000000, 0), at(0, 1<<32), at(0, 256), at(0x0a000000, 256+8)} {
		for i := range 3 {
			m := turn(anUpdate(), func(m *api.PvMessage) { m.Lost[i] = p })
			refused(t, "lost", api.ErrBits, m)
			m = turn(anUpdate(), func(m *api.PvMessage) { m.Have = slices.Insert(m.Have, min(i, 2), p) })
			refused(t, "have", api.ErrBits, m)
		}
		refused(t, "alone", api.ErrBits, api.PvMessage{Kind: api.PvUpdate, Lost: []api.Prefix{p}})
		refused(t, "twice", api.ErrBits, api.PvMessage{Kind: api.PvUpdate, Have: []api.Prefix{p, p}})
	}
}

func TestJ2Twice(t *testing.T) {
	rising := []api.Prefix{at(0, 0), at(0, 1), at(0, 32), at(1, 32), at(0x0a000000, 8), at(0x0a000000, 9), at(0x80000000, 1), at(top, 32)}
	update := func(lost, have []api.Prefix) api.PvMessage {
		return api.PvMessage{Kind: api.PvUpdate, Lost: lost, Have: have}
	}
	refused(t, "rising", api.OK, update(rising, nil))
	refused(t, "rising", api.OK, update(nil, rising))
	for i := range len(rising) - 1 {
		changed := slices.Clone(rising)
		changed[i], changed[i+1] = changed[i+1], changed[i]
		refused(t, "not in order", api.ErrTwice, update(changed, nil))
		refused(t, "not in order", api.ErrTwice, update(nil, changed))
		changed[i], changed[i+1] = rising[i], rising[i]
		refused(t, "twice", api.ErrTwice, update(changed, nil))
		refused(t, "twice", api.ErrTwice, update(nil, changed))
	}
	// All ways to lay the prefixes into both lists, and with one of them in both.
	for set := range 1 << len(rising) {
		var lost, have []api.Prefix
		for i, p := range rising {
			if set>>i&1 == 0 {
				lost = append(lost, p)
			} else {
				have = append(have, p)
			}
		}
		refused(t, "apart", api.OK, update(lost, have))
		for i, p := range rising {
			if set>>i&1 == 0 {
				both := append(slices.Clone(have), p)
				slices.SortFunc(both, func(p, q api.Prefix) int { return slices.Index(rising, p) - slices.Index(rising, q) })
				refused(t, "in both", api.ErrTwice, update(lost, both))
			}
		}
	}
}

// ranges tries numbers in one field: they are right just from least to most.
func ranges(t *testing.T, what string, m api.PvMessage, least, most int, field func(*api.PvMessage) *int) {
	t.Helper()
	for _, n := range append([]int{least - 1, least, least + 1, most - 1, most, most + 1}, beyond...) {
		want := api.ErrRange
		if least <= n && n <= most {
			want = api.OK
		}
		refused(t, what, want, turn(m, func(m *api.PvMessage) { *field(m) = n }))
	}
}

func TestJ2Range(t *testing.T) {
	ranges(t, "domain", anOpen(), 1, top, func(m *api.PvMessage) *int { return &m.Domain })
	ranges(t, "id", anOpen(), 1, top, func(m *api.PvMessage) *int { return &m.Id })
	for _, n := range append([]int{0, 1, 2, 3, 4, 65534, 65535, 65536, 65539, -3}, beyond...) {
		want := api.ErrRange
		if n == 0 || n >= 3 && n <= 65535 {
			want = api.OK
		}
		refused(t, "hold", want, turn(anOpen(), func(m *api.PvMessage) { m.Hold = n }))
	}
	ranges(t, "code", aNotice(), 0, 255, func(m *api.PvMessage) *int { return &m.Code })
	ranges(t, "origin", anUpdate(), 0, 2, func(m *api.PvMessage) *int { return &m.Route.Origin })
	ranges(t, "med", anUpdate(), 0, top, func(m *api.PvMessage) *int { return &m.Route.Med })
	ranges(t, "pref", anUpdate(), 0, top, func(m *api.PvMessage) *int { return &m.Route.Pref })
	ranges(t, "author", anUpdate(), 0, top, func(m *api.PvMessage) *int { return &m.Route.Author })
	for i := range 3 {
		ranges(t, "path", anUpdate(), 1, top, func(m *api.PvMessage) *int { return &m.Route.Path[i] })
		ranges(t, "clusters", anUpdate(), 0, top, func(m *api.PvMessage) *int { return &m.Route.Clusters[i] })
	}
	one := turn(anUpdate(), func(m *api.PvMessage) { m.Route.Marks = []int{5} })
	ranges(t, "marks", one, 0, top, func(m *api.PvMessage) *int { return &m.Route.Marks[0] })
}

func upTo(n int) []int {
	var out []int
	for i := range n {
		out = append(out, i+1)
	}
	return out
}

func TestJ2HowMany(t *testing.T) {
	for _, c := range []struct {
		n, most int
		set     func(m *api.PvMessage, l []int)
	}{
		{64, api.MaxPath, func(m *api.PvMessage, l []int) { m.Route.Path = l }},
		{32, api.MaxMarks, func(m *api.PvMessage, l []int) { m.Route.Marks = l }},
		{32, api.MaxMarks, func(m *api.PvMessage, l []int) { m.Route.Clusters = l }},
	} {
		if c.n != c.most {
			t.Fatalf("%d are the most, not %d", c.most, c.n)
		}
		for _, n := range []int{0, 1, c.n - 1, c.n, c.n + 1, c.n + 256, 20000} {
			want := api.OK
			if n > c.n {
				want = api.ErrRange
			}
			refused(t, "how many", want, turn(anUpdate(), func(m *api.PvMessage) { c.set(m, upTo(n)) }))
		}
	}
}

func TestJ2Marks(t *testing.T) {
	for _, l := range [][]int{{0, 0}, {1, 0}, {5, 5}, {top, top}, {top, 0}, {1, 2, 2}, {1, 3, 2}, {2, 1, 3}} {
		refused(t, "marks", api.ErrForm, turn(anUpdate(), func(m *api.PvMessage) { m.Route.Marks = l }))
		refused(t, "path", api.OK, turn(anUpdate(), func(m *api.PvMessage) { m.Route.Path = []int{3, 2, 2, top, 1} }))
		refused(t, "clusters", api.OK, turn(anUpdate(), func(m *api.PvMessage) { m.Route.Clusters = l }))
	}
}

// asLong gives an update of so many bytes.
func asLong(size int, have bool) api.PvMessage {
	m := api.PvMessage{Kind: api.PvUpdate}
	rest := size - 13
	if have {
		m.Have = []api.Prefix{at(0, 1)}
		rest -= 4 + 3 + 7 + 2
	}
	if rest%5 == 1 {
		m.Lost = append(m.Lost, at(0, 0))
	}
	for i := range rest / 5 {
		m.Lost = append(m.Lost, at(0x01000000+uint32(i), 32))
	}
	if rest%5 > 1 {
		m.Lost = append(m.Lost, at(0xf0000000, 8*(rest%5-1)))
	}
	return m
}

func TestJ2J3Long(t *testing.T) {
	for size := 1000; size < 1050; size++ {
		for _, have := range []bool{false, true} {
			m := asLong(size, have)
			b := model(m)
			if len(b) != size {
				t.Fatalf("%d bytes, must be %d", len(b), size)
			}
			if size <= 1024 {
				refused(t, "long", api.OK, m)
				read(t, "long", m, b)
			} else {
				refused(t, "too long", api.ErrLong, m)
				unread(t, "too long", api.ErrLong, b)
			}
		}
	}
	far := asLong(70000*5, false)
	refused(t, "far too long", api.ErrLong, far)
	far.Lost[60000] = far.Lost[59999]
	refused(t, "far too long, and twice", api.ErrTwice, far)
}

// TestJ2First: of several faults the answer is the one that is named first.
func TestJ2First(t *testing.T) {
	faults := []struct {
		e   api.Errno
		set func(*api.PvMessage)
	}{
		{api.ErrKind, func(m *api.PvMessage) { m.Kind = 5 }},
		{api.ErrForm, func(m *api.PvMessage) { m.Code = 1 }},
		{api.ErrBits, func(m *api.PvMessage) { m.Lost[0] = at(0, 33) }},
		{api.ErrTwice, func(m *api.PvMessage) { m.Have = append(m.Have, m.Have[1]) }},
		{api.ErrRange, func(m *api.PvMessage) { m.Route.Origin = 3 }},
		{api.ErrForm, func(m *api.PvMessage) { m.Route.Marks = []int{2, 2} }},
		{api.ErrLong, func(m *api.PvMessage) {
			for i := range 300 {
				m.Lost = append(m.Lost, at(0x0c000000+uint32(i), 32))
			}
		}},
	}
	for set := range 1 << len(faults) {
		m, want := turn(anUpdate(), func(*api.PvMessage) {}), api.OK
		for i, f := range faults {
			if set>>i&1 == 1 {
				f.set(&m)
				if want == api.OK {
					want = f.e
				}
			}
		}
		refused(t, "the first", want, m)
	}
	open := api.PvMessage{Kind: api.PvOpen, Code: 1}
	refused(t, "form ahead of range", api.ErrForm, open)
}
