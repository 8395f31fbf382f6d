package choose_test

import (
	"math/rand"
	"slices"
	"testing"

	"wayfinder/api"
	"wayfinder/choose"
)

func at(a uint32, n int) api.Prefix { return api.Prefix{Addr: a, Len: n} }

// flap is one that was taken.
type flap struct{ what, now int }

// diary is a damper in the plainest way: it knows all flaps, and plays them tick by tick when it is asked.
type diary struct {
	c     api.DampConfig
	clock int
	flaps map[api.Prefix][]flap
	told  map[api.Prefix]int // how many flaps there were when Freed told of it
}

func newDiary(c api.DampConfig) *diary {
	return &diary{c: c, flaps: map[api.Prefix][]flap{}, told: map[api.Prefix]int{}}
}

// faded is I4, word for word.
func faded(v, t, half int) int {
	q := t / half
	r := t - q*half
	w := v
	for range q {
		w /= 2
	}
	return w - (w-w/2)*r/half
}

// play gives what is known of a prefix at a time, and behind which of its flaps it was held.
func (d *diary) play(p api.Prefix, now int) (value int, held bool, holds []int) {
	v, since, next := 0, 0, 0
	for t := 0; t <= now; t++ {
		value = faded(v, t-since, d.c.Half)
		held = held && value >= d.c.Reuse
		for ; next < len(d.flaps[p]) && d.flaps[p][next].now == t; next++ {
			switch d.flaps[p][next].what {
			case 1:
				value += d.c.Down
			case 2:
				value += d.c.Change
			}
			value = min(value, d.c.Most)
			v, since = value, t
			held = held || value >= d.c.Limit
			if held {
				holds = append(holds, next)
			}
		}
	}
	return value, held, holds
}

func right(p api.Prefix) bool {
	return p.Len >= 0 && p.Len <= 32 && uint64(p.Addr)%(1<<(32-p.Len)) == 0
}

func (d *diary) flap(p api.Prefix, what, now int) api.Errno {
	if !right(p) {
		return api.ErrBits
	}
	if what < 1 || what > 3 {
		return api.ErrKind
	}
	if now < d.clock || now > 1<<40 {
		return api.ErrRange
	}
	if value, _, _ := d.play(p, now); value == 0 {
		others := 0
		for q := range d.flaps {
			if v, _, _ := d.play(q, now); v > 0 {
				others++
			}
		}
		if others >= 64 {
			return api.ErrFull
		}
	}
	d.clock = now
	d.flaps[p] = append(d.flaps[p], flap{what, now})
	return api.OK
}

func (d *diary) freed(now int) []api.Prefix {
	d.clock = max(d.clock, now)
	var out []api.Prefix
	for p, l := range d.flaps {
		_, held, holds := d.play(p, d.clock)
		if !held && slices.ContainsFunc(holds, func(k int) bool { return k >= d.told[p] }) {
			out = append(out, p)
			d.told[p] = len(l)
		}
	}
	slices.SortFunc(out, func(p, q api.Prefix) int {
		return slices.Compare([]int{int(p.Addr), p.Len}, []int{int(q.Addr), q.Len})
	})
	return out
}

func drawConfig(r *rand.Rand, mostHalf int) api.DampConfig {
	c := api.DampConfig{Half: 1 + r.Intn(mostHalf), Reuse: 1 + r.Intn(60)}
	c.Limit = c.Reuse + 1 + r.Intn(80)
	c.Most = c.Limit + r.Intn(100)
	c.Down, c.Change = r.Intn(90), r.Intn(50)
	return c
}

// beside plays calls against a damper and a diary, and asks of some prefixes behind each.
func beside(t *testing.T, r *rand.Rand, c api.DampConfig, all []api.Prefix, calls, stride int) map[api.Errno]int {
	t.Helper()
	d, e := choose.NewDamper(c)
	if e != api.OK {
		t.Fatalf("I3 NewDamper %v: %v", c, e)
	}
	m := newDiary(c)
	met := map[api.Errno]int{}
	for k := range calls {
		now := m.clock + r.Intn(stride)*r.Intn(2) - r.Intn(2)*r.Intn(2)
		p := all[r.Intn(len(all))]
		if r.Intn(12) == 0 {
			if got, want := d.Freed(now), m.freed(now); !slices.Equal(got, want) {
				t.Fatalf("I7 %v, call %d: Freed(%d): %v, must be %v", c, k, now, got, want)
			}
		} else {
			what := r.Intn(5 - r.Intn(2))
			got, want := d.Flap(p, what, now), m.flap(p, what, now)
			if got != want {
				t.Fatalf("I5 %v, call %d: Flap(%v, %d, %d): %v, must be %v", c, k, p, what, now, got, want)
			}
			met[got]++
		}
		ask := append([]api.Prefix{p}, all[r.Intn(len(all))])
		for _, p := range ask {
			for _, later := range []int{-3, 0, r.Intn(4), r.Intn(3 * stride)} {
				value, held, _ := m.play(p, m.clock+max(later, 0))
				if v, h := d.Penalty(p, m.clock+later), d.Held(p, m.clock+later); v != value || h != held {
					t.Fatalf("I4, I5, I6 %v, call %d: %v at %d: %d %v, must be %d %v", c, k, p, m.clock+later, v, h, value, held)
				}
			}
		}
	}
	return met
}

func TestI4ToI7AgainstADiary(t *testing.T) {
	r := rand.New(rand.NewSource(5))
	few := []api.Prefix{at(0x0a000000, 8), at(0x0a000000, 9), at(0, 0), at(0xffffffff, 32), at(1, 31)}
	for range 400 {
		beside(t, r, drawConfig(r, 12), few, 80, 9)
	}
}

// TestI5I7AgainstADiaryOfMany: more prefixes than may have a penalty at once.
func TestI5I7AgainstADiaryOfMany(t *testing.T) {
	r := rand.New(rand.NewSource(6))
	var many []api.Prefix
	for i := range 90 {
		many = append(many, at(uint32(i*37%90)<<20, 12))
	}
	met := map[api.Errno]int{}
	for range 12 {
		for e, n := range beside(t, r, drawConfig(r, 60), many, 700, 3) {
			met[e] += n
		}
	}
	if met[api.ErrFull] == 0 {
		t.Errorf("it was never full: %v", met)
	}
}
