package choose_test

import (
	"fmt"
	"math"
	"slices"
	"testing"

	"wayfinder/api"
	"wayfinder/choose"
)

// usual is that of the document's example.
var usual = api.DampConfig{Half: 10, Limit: 2000, Reuse: 750, Most: 6000, Down: 1000, Change: 500}

// wrong are prefixes that are not valid.
var wrong = []api.Prefix{at(1, 0), at(0, -1), at(0, 33), at(1, 31), at(0x80000000, 0), at(0x0a000001, 8), at(0, math.MaxInt), at(0, math.MinInt)}

var ten = at(0x0a000000, 8)

// rig is a damper that is asked step by step.
type rig struct {
	t *testing.T
	*choose.Damper
}

func newRig(t *testing.T, c api.DampConfig) rig {
	t.Helper()
	d, e := choose.NewDamper(c)
	if d == nil || e != api.OK {
		t.Fatalf("I3 NewDamper %v: %v %v", c, d, e)
	}
	return rig{t, d}
}

// flap tells of a flap, and asks what has become of the prefix.
func (r rig) flap(p api.Prefix, what, now, value int, held bool) {
	r.t.Helper()
	if e := r.Flap(p, what, now); e != api.OK {
		r.t.Errorf("Flap(%v, %d, %d): %v", p, what, now, e)
	}
	r.is(p, now, value, held)
}

func (r rig) refused(p api.Prefix, what, now int, want api.Errno) {
	r.t.Helper()
	if e := r.Flap(p, what, now); e != want {
		r.t.Errorf("Flap(%v, %d, %d): %v, must be %v", p, what, now, e, want)
	}
}

func (r rig) is(p api.Prefix, now, value int, held bool) {
	r.t.Helper()
	if v, h := r.Penalty(p, now), r.Held(p, now); v != value || h != held {
		r.t.Errorf("%v at %d: %d %v, must be %d %v", p, now, v, h, value, held)
	}
}

func (r rig) freed(now int, want ...api.Prefix) {
	r.t.Helper()
	if got := r.Freed(now); !slices.Equal(got, want) {
		r.t.Errorf("Freed(%d): %v, must be %v", now, got, want)
	}
}

func TestI3NewDamper(t *testing.T) {
	ask := func(want bool, change func(c *api.DampConfig)) {
		t.Helper()
		c := usual
		change(&c)
		d, e := choose.NewDamper(c)
		if want && (d == nil || e != api.OK) || !want && (d != nil || e != api.ErrRange) {
			t.Errorf("%+v: %v %v", c, d != nil, e)
		}
	}
	each := func(want bool, field func(c *api.DampConfig) *int, numbers ...int) {
		t.Helper()
		for _, n := range numbers {
			ask(want, func(c *api.DampConfig) { *field(c) = n })
		}
	}
	least, most := math.MinInt, math.MaxInt
	each(true, func(c *api.DampConfig) *int { return &c.Half }, 1, 2, 10000)
	each(false, func(c *api.DampConfig) *int { return &c.Half }, 0, -1, 10001, least, most)
	each(true, func(c *api.DampConfig) *int { return &c.Reuse }, 1, 1999)
	each(false, func(c *api.DampConfig) *int { return &c.Reuse }, 0, -1, 2000, 2001, least, most)
	each(true, func(c *api.DampConfig) *int { return &c.Limit }, 751, 6000)
	each(false, func(c *api.DampConfig) *int { return &c.Limit }, 750, 749, 6001, 0, least, most)
	each(true, func(c *api.DampConfig) *int { return &c.Most }, 2000, 1000000)
	each(false, func(c *api.DampConfig) *int { return &c.Most }, 1999, 1000001, 0, least, most)
	each(true, func(c *api.DampConfig) *int { return &c.Down }, 0, 6001, 1000000)
	each(false, func(c *api.DampConfig) *int { return &c.Down }, -1, 1000001, least, most)
	each(true, func(c *api.DampConfig) *int { return &c.Change }, 0, 6001, 1000000)
	each(false, func(c *api.DampConfig) *int { return &c.Change }, -1, 1000001, least, most)
	ask(true, func(c *api.DampConfig) { *c = api.DampConfig{Half: 1, Limit: 2, Reuse: 1, Most: 2} })
	ask(false, func(c *api.DampConfig) { *c = api.DampConfig{} })
	ask(false, func(c *api.DampConfig) { c.Limit, c.Most = 1000001, 1000001 })
}

func TestI3Clock(t *testing.T) {
	r := newRig(t, usual)
	r.is(ten, 0, 0, false)
	r.refused(ten, api.FlapDown, -1, api.ErrRange)
	r.flap(ten, api.FlapDown, 0, 1000, false)
}

// TestI4Example is the one of the document.
func TestI4Example(t *testing.T) {
	r := newRig(t, usual)
	r.flap(ten, api.FlapDown, 0, 1000, false)
	r.flap(ten, api.FlapUp, 1, 950, false)
	r.flap(ten, api.FlapDown, 1, 1950, false)
	r.flap(ten, api.FlapChange, 2, 2353, true)
	r.is(ten, 12, 1176, true)
	r.is(ten, 22, 588, false)
}

func TestI4Fades(t *testing.T) {
	for _, half := range []int{1, 2, 3, 7, 100, 9999, 10000} {
		for _, v := range []int{1, 2, 3, 5, 999, 1000, 65535, 999999, 1000000} {
			r := newRig(t, api.DampConfig{Half: half, Limit: 1000000, Reuse: 1, Most: 1000000, Down: v, Change: 0})
			r.flap(ten, api.FlapDown, 5, v, v == 1000000)
			for _, ticks := range []int{0, 1, half / 2, half - 1, half, half + 1, 2*half - 1, 2 * half, 5*half + half/3, 19 * half, 20 * half, 63 * half, 64 * half, 65 * half} {
				want := faded(v, ticks, half)
				r.is(ten, 5+ticks, want, v == 1000000 && want > 0)
			}
			for _, now := range []int{1 << 40, 1<<40 + 1, 1 << 50, math.MaxInt} {
				r.is(ten, now, 0, false)
			}
		}
	}
}

// TestI4EachFlapCounts: a flap that adds nothing, and one that Most cuts, lets the penalty fade from then on; one that is refused does not.
func TestI4EachFlapCounts(t *testing.T) {
	fade := func(what, now int) rig {
		c := usual
		c.Change = 0
		r := newRig(t, c)
		r.flap(ten, api.FlapDown, 0, 1000, false)
		if now >= 0 {
			r.Flap(ten, what, now)
		}
		return r
	}
	fade(0, -1).is(ten, 2, 900, false)
	fade(api.FlapUp, 1).is(ten, 2, 903, false)
	fade(api.FlapChange, 1).is(ten, 2, 903, false)
	fade(api.FlapUp, 0).is(ten, 2, 900, false)
	fade(4, 1).is(ten, 2, 900, false)
	fade(0, 1).is(ten, 2, 900, false)

	r := newRig(t, api.DampConfig{Half: 10, Limit: 100, Reuse: 50, Most: 100, Down: 100, Change: 0})
	r.flap(ten, api.FlapDown, 0, 100, true)
	r.flap(ten, api.FlapDown, 5, 100, true)
	r.is(ten, 10, 75, true)
}

func TestI5Errors(t *testing.T) {
	r := newRig(t, usual)
	for i := range 64 {
		r.flap(at(uint32(i)<<24, 8), api.FlapDown, 7, 1000, false)
	}
	other := at(0xff000000, 8)
	for _, p := range wrong {
		r.refused(p, 0, -1, api.ErrBits)
		r.refused(p, api.FlapDown, 8, api.ErrBits)
	}
	for _, what := range []int{0, 4, -1, math.MinInt, math.MaxInt} {
		r.refused(other, what, 6, api.ErrKind)
		r.refused(at(0, 8), what, 8, api.ErrKind)
	}
	for _, now := range []int{6, -1, 1<<40 + 1, math.MinInt, math.MaxInt} {
		r.refused(other, api.FlapDown, now, api.ErrRange)
		r.refused(at(0, 8), api.FlapUp, now, api.ErrRange)
	}
	for what := api.FlapDown; what <= api.FlapUp; what++ {
		r.refused(other, what, 8, api.ErrFull)
	}
	// None of these has moved the clock, or left anything behind.
	r.is(other, 7, 0, false)
	r.flap(at(0, 8), api.FlapUp, 7, 1000, false)
	r.freed(0)
}

func TestI5Full(t *testing.T) {
	c := usual
	c.Half, c.Change = 1, 1
	r := newRig(t, c)
	other := at(0xff000000, 8)
	r.flap(at(0, 8), api.FlapChange, 0, 1, false)
	for i := range 63 {
		r.flap(at(uint32(i+1)<<24, 8), api.FlapDown, 0, 1000, false)
	}
	r.refused(other, api.FlapUp, 0, api.ErrFull)
	// One that has a penalty may flap on.
	r.flap(at(1<<24, 8), api.FlapDown, 0, 2000, true)
	// One of the 64 has none any more, then: it counts as of the time of the flap.
	r.flap(other, api.FlapUp, 1, 0, false)
	r.flap(other, api.FlapDown, 1, 1000, false)
	r.refused(at(0, 8), api.FlapUp, 1, api.ErrFull)
	// None has one at 100, and there is room for 64 others; that one is still to be told makes no difference.
	for i := range 64 {
		r.flap(at(uint32(i)<<8, 24), api.FlapDown, 100, 1000, false)
	}
	r.refused(other, api.FlapUp, 100, api.ErrFull)
	r.freed(100, at(1<<24, 8))
	r.refused(other, api.FlapUp, 100, api.ErrFull)
}

// TestI5FullOfNothing: flaps that add nothing do not fill a damper.
func TestI5FullOfNothing(t *testing.T) {
	c := usual
	c.Change = 0
	r := newRig(t, c)
	for i := range 200 {
		r.flap(at(uint32(i)<<24, 8), api.FlapChange, 0, 0, false)
		r.flap(at(uint32(i)<<24, 8), api.FlapUp, 0, 0, false)
	}
	for i := range 64 {
		r.flap(at(uint32(i)<<24, 8), api.FlapDown, 0, 1000, false)
	}
	r.refused(at(64<<24, 8), api.FlapChange, 0, api.ErrFull)
}

func TestI5Held(t *testing.T) {
	c := api.DampConfig{Half: 10, Limit: 100, Reuse: 50, Most: 400, Down: 99, Change: 1}
	r := newRig(t, c)
	r.flap(ten, api.FlapDown, 0, 99, false)
	r.flap(ten, api.FlapChange, 0, 100, true)
	r.is(ten, 9, 55, true)
	r.is(ten, 10, 50, true)
	r.is(ten, 11, 48, false)
	// Held on, though below Limit.
	r.flap(ten, api.FlapChange, 10, 51, true)
	r.flap(ten, api.FlapUp, 10, 51, true)
	r.is(ten, 11, 49, false)
	// Free, though not below Reuse again, for it was below it at that time.
	r.flap(ten, api.FlapChange, 11, 50, false)
	r.flap(ten, api.FlapChange, 11, 51, false)
	r.flap(ten, api.FlapDown, 11, 150, true)
	// Other prefixes, though they hold it or are held by it, are others.
	for _, p := range []api.Prefix{at(0x0a000000, 9), at(0x0a000000, 7), at(0, 0), at(0x0b000000, 8)} {
		r.is(p, 11, 0, false)
	}
}

func TestI5Most(t *testing.T) {
	r := newRig(t, usual)
	for i := range 9 {
		r.flap(ten, api.FlapDown, 3, min(1000*(i+1), 6000), i > 0)
	}
	r.flap(ten, api.FlapChange, 3, 6000, true)
	r = newRig(t, api.DampConfig{Half: 10000, Limit: 1000000, Reuse: 999999, Most: 1000000, Down: 1000000, Change: 999999})
	r.flap(ten, api.FlapChange, 0, 999999, false)
	r.flap(ten, api.FlapDown, 0, 1000000, true)
	r.is(ten, 2, 999900, false)
}

func TestI6Asks(t *testing.T) {
	r := newRig(t, usual)
	r.flap(ten, api.FlapDown, 10, 1000, false)
	r.flap(ten, api.FlapDown, 12, 1900, false)
	r.flap(ten, api.FlapDown, 12, 2900, true)
	for _, now := range []int{12, 11, 10, 0, -1, math.MinInt} {
		r.is(ten, now, 2900, true)
	}
	r.is(ten, math.MaxInt, 0, false)
	r.is(ten, 32, 725, false)
	r.is(ten, 12, 2900, true)
	for _, p := range wrong {
		r.is(p, 12, 0, false)
		r.is(p, math.MaxInt, 0, false)
	}
	// The clock is that of all prefixes, and asking has not moved it.
	other := at(0x0b000000, 8)
	r.is(other, 0, 0, false)
	r.flap(other, api.FlapDown, 12, 1000, false)
	r.flap(other, api.FlapUp, 22, 500, false)
	r.is(ten, 0, 1450, true)
	r.freed(32, ten)
	r.is(ten, 0, 725, false)
}

func TestI7Freed(t *testing.T) {
	r := newRig(t, usual)
	r.freed(0)
	l := []api.Prefix{at(0x0b000000, 8), at(0x0a000000, 9), at(0xffffffff, 32), at(0, 0), at(0x0a000000, 8), at(0x7fffffff, 32)}
	for _, p := range l {
		r.flap(p, api.FlapDown, 5, 1000, false)
		r.flap(p, api.FlapDown, 5, 2000, true)
	}
	free := at(0x0c000000, 8)
	r.flap(free, api.FlapDown, 5, 1000, false)
	r.flap(at(0, 0), api.FlapChange, 5, 2500, true)
	r.freed(5)
	// By Addr, then Len: what is held longer is not among them yet.
	r.freed(20)
	r.freed(21, at(0x0a000000, 8), at(0x0a000000, 9), at(0x0b000000, 8), at(0x7fffffff, 32), at(0xffffffff, 32))
	r.freed(21)
	r.freed(100, at(0, 0))
	r.freed(200)
	// One that was told is told again only when it was held again.
	r.flap(ten, api.FlapDown, 200, 1000, false)
	r.freed(300)
	r.flap(ten, api.FlapDown, 300, 1000, false)
	r.flap(ten, api.FlapDown, 300, 2000, true)
	r.freed(300)
	r.freed(400, ten)
	r.freed(400)
}

// TestI7HeldAnew: one that was free for a while and is held again is told when it is free again, and once.
func TestI7HeldAnew(t *testing.T) {
	r := newRig(t, usual)
	for _, now := range []int{0, 200, 400} {
		r.flap(ten, api.FlapDown, now, 1000, false)
		r.flap(ten, api.FlapDown, now, 2000, true)
		r.is(ten, now+50, 62, false)
	}
	r.freed(400)
	r.freed(405)
	r.freed(500, ten)
	r.freed(500)
}

// TestI7Clock: Freed moves the clock on, never back, and not beyond the end of time.
func TestI7Clock(t *testing.T) {
	r := newRig(t, usual)
	r.flap(ten, api.FlapDown, 10, 1000, false)
	for _, now := range []int{9, 0, -1, math.MinInt} {
		r.freed(now)
	}
	r.flap(ten, api.FlapDown, 10, 2000, true)
	r.freed(15)
	r.refused(ten, api.FlapUp, 14, api.ErrRange)
	r.is(ten, 0, 1500, true)
	r.freed(-5)
	r.refused(ten, api.FlapUp, 14, api.ErrRange)
	r.flap(ten, api.FlapUp, 15, 1500, true)
	r.freed(math.MaxInt, ten)
	r.refused(ten, api.FlapUp, 1<<40-1, api.ErrRange)
	r.refused(ten, api.FlapUp, 1<<40+1, api.ErrRange)
	r.flap(ten, api.FlapDown, 1<<40, 1000, false)
	r.flap(ten, api.FlapDown, 1<<40, 2000, true)
	r.freed(math.MaxInt)
	r.freed(1 << 40)
	r.is(ten, 1<<40+10, 1000, true)
	r.is(ten, 1<<40+20, 500, false)
}

// TestI7Late: those that were held long ago are told, though they have no penalty any more and are far more than may have one.
func TestI7Late(t *testing.T) {
	c := usual
	c.Half, c.Down = 1, 2000
	r := newRig(t, c)
	const n = 60000
	var want []api.Prefix
	for i := range n {
		p := at(uint32(n-i)<<8, 24)
		r.flap(p, api.FlapDown, 20*i, 2000, true)
		want = append(want, p)
	}
	slices.Reverse(want)
	r.freed(20*n, want...)
	r.freed(20 * n)
}

// TestP3DampersAreApart: each knows its own flaps alone, and an answer is the caller's.
func TestP3DampersAreApart(t *testing.T) {
	a, b := newRig(t, usual), newRig(t, usual)
	other := at(0x0b000000, 8)
	for _, p := range []api.Prefix{ten, other} {
		a.flap(p, api.FlapDown, 50, 1000, false)
		a.flap(p, api.FlapDown, 50, 2000, true)
	}
	b.is(ten, 50, 0, false)
	b.flap(ten, api.FlapDown, 0, 1000, false)
	a.is(ten, 50, 2000, true)
	b.freed(1000)
	a.is(ten, 0, 2000, true)
	l := a.Freed(100)
	if fmt.Sprint(l) != fmt.Sprint([]api.Prefix{ten, other}) {
		t.Fatalf("Freed: %v", l)
	}
	clear(l[:cap(l)])
	a.freed(100)
	a.flap(ten, api.FlapDown, 100, 1062, false)
	a.flap(ten, api.FlapDown, 100, 2062, true)
	a.freed(200, ten)
}
