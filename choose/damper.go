package choose

import (
	"slices"

	"wayfinder/api"
	"wayfinder/pfx"
)

// mostHalf is the greatest Half.
const mostHalf = 10000

// Damper knows how often prefixes have come and gone.
type Damper struct {
	config    api.DampConfig
	clock     int
	penalties map[api.Prefix]penalty  // those that are above 0 at the clock
	untold    map[api.Prefix]struct{} // those that were held since Freed told them last
}

// penalty is what the last flap of a prefix has made it, and when.
type penalty struct {
	value, since int
	held         bool
}

// at gives what is left of a penalty.
func (x penalty) at(now, half int) int {
	ticks := now - x.since
	left := x.value >> (ticks / half)
	return left - (left-left/2)*(ticks%half)/half
}

func within(n, least, most int) bool { return least <= n && n <= most }

// NewDamper begins one.
func NewDamper(c api.DampConfig) (*Damper, api.Errno) {
	ok := within(c.Half, 1, mostHalf) && 1 <= c.Reuse && c.Reuse < c.Limit && c.Limit <= c.Most && c.Most <= api.MaxPenalty &&
		within(c.Down, 0, api.MaxPenalty) && within(c.Change, 0, api.MaxPenalty)
	if !ok {
		return nil, api.ErrRange
	}
	return &Damper{config: c, penalties: map[api.Prefix]penalty{}, untold: map[api.Prefix]struct{}{}}, api.OK
}

// Flap tells that a prefix has come, gone or changed.
func (d *Damper) Flap(p api.Prefix, what int, now int) api.Errno {
	if e := d.checkFlap(p, what, now); e != api.OK {
		return e
	}
	value := min(d.penaltyAt(p, now)+d.price(what), d.config.Most)
	held := d.heldAt(p, now) || value >= d.config.Limit
	d.moveTo(now)
	if value > 0 {
		d.penalties[p] = penalty{value, now, held}
	}
	if held {
		d.untold[p] = struct{}{}
	}
	return api.OK
}

func (d *Damper) checkFlap(p api.Prefix, what int, now int) api.Errno {
	switch {
	case !pfx.Valid(p):
		return api.ErrBits
	case !within(what, api.FlapDown, api.FlapUp):
		return api.ErrKind
	case !within(now, d.clock, api.MaxTime):
		return api.ErrRange
	case d.penaltyAt(p, now) == 0 && d.countAt(now) >= api.MaxDamped:
		return api.ErrFull
	}
	return api.OK
}

// price is how much a flap adds to a penalty.
func (d *Damper) price(what int) int {
	switch what {
	case api.FlapDown:
		return d.config.Down
	case api.FlapChange:
		return d.config.Change
	}
	return 0
}

// Penalty tells a prefix's penalty.
func (d *Damper) Penalty(p api.Prefix, now int) int { return d.penaltyAt(p, max(now, d.clock)) }

// Held tells whether it is held.
func (d *Damper) Held(p api.Prefix, now int) bool { return d.heldAt(p, max(now, d.clock)) }

// Freed tells those that were held, and are not any more.
func (d *Damper) Freed(now int) []api.Prefix {
	d.moveTo(max(d.clock, min(now, api.MaxTime)))
	var out []api.Prefix
	for p := range d.untold {
		if !d.heldAt(p, d.clock) {
			out = append(out, p)
			delete(d.untold, p)
		}
	}
	slices.SortFunc(out, pfx.Order)
	return out
}

// penaltyAt, heldAt and countAt look at a time that is not ahead of the clock.
func (d *Damper) penaltyAt(p api.Prefix, now int) int {
	return d.penalties[p].at(now, d.config.Half)
}

func (d *Damper) heldAt(p api.Prefix, now int) bool {
	return d.penalties[p].held && d.penaltyAt(p, now) >= d.config.Reuse
}

// countAt tells how many prefixes have a penalty.
func (d *Damper) countAt(now int) int {
	n := 0
	for _, x := range d.penalties {
		if x.at(now, d.config.Half) > 0 {
			n++
		}
	}
	return n
}

// moveTo sets the clock; a penalty that is 0 then stays so, and need not be kept.
func (d *Damper) moveTo(now int) {
	d.clock = now
	for p, x := range d.penalties {
		if x.at(now, d.config.Half) == 0 {
			delete(d.penalties, p)
		}
	}
}
