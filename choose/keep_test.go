package choose

import (
	"testing"

	"wayfinder/api"
)

// TestKeepsNoMore: a damper keeps nothing of a prefix without a penalty, but that it is still to be told.
func TestKeepsNoMore(t *testing.T) {
	d, _ := NewDamper(api.DampConfig{Half: 1, Limit: 20, Reuse: 10, Most: 30, Down: 20, Change: 5})
	keeps := func(what string, penalties, untold int) {
		t.Helper()
		if len(d.penalties) != penalties || len(d.untold) != untold {
			t.Errorf("%s: %d penalties and %d untold, must be %d and %d", what, len(d.penalties), len(d.untold), penalties, untold)
		}
	}
	for i := range 100 {
		p := api.Prefix{Addr: uint32(i) << 24, Len: 8}
		d.Flap(p, api.FlapUp, 100*i)
		keeps("come", 0, i)
		d.Flap(p, api.FlapDown, 100*i)
		keeps("lost", 1, i+1)
	}
	d.Freed(9900)
	keeps("the last one is held", 1, 1)
	d.Freed(20000)
	keeps("all are free", 0, 0)
	d.Flap(api.Prefix{}, api.FlapChange, 20000)
	keeps("changed", 1, 0)
	d.Freed(20100)
	keeps("forgotten", 0, 0)
}
