package session_test

import (
	"bytes"
	"math/rand"
	"testing"

	"wayfinder/api"
	"wayfinder/pv"
	"wayfinder/session"
)

// entry is what a diary tells of one moment.
type entry struct {
	time int
	what int
}

// What a diary writes down.
const (
	wroteStart = iota
	wroteCame
	wroteSent
)

// diary plays a session: it writes all down that happens, and looks there when something hangs on it.
type diary struct {
	config api.SessionConfig
	now    int
	state  int
	both   int
	id     int
	came   []byte // since the start
	done   int    // so many messages of it
	log    []entry
	out    api.SessionOut
}

// ago tells how long ago the last of some entries is.
func (d *diary) ago(what ...int) int {
	for i := len(d.log) - 1; ; i-- {
		for _, w := range what {
			if d.log[i].what == w {
				return d.now - d.log[i].time
			}
		}
	}
}

func (d *diary) write(what int) { d.log = append(d.log, entry{d.now, what}) }

func (d *diary) send(m api.PvMessage) {
	d.out.Bytes = append(d.out.Bytes, as(m)...)
	d.write(wroteSent)
}

func (d *diary) end(code int) {
	if code != api.EndTold {
		d.send(notice(code))
	}
	if d.state == api.SessionUp {
		d.out.Events = append(d.out.Events, isDown(code))
	}
	d.state = api.SessionIdle
}

// begin is what comes first at each call.
func (d *diary) begin(now int) {
	d.out = api.SessionOut{}
	if now > d.now {
		d.now = now
	}
	if d.state == api.SessionIdle {
		return
	}
	wait, ever := api.OpenHold, false
	if d.state != api.SessionOpening {
		wait, ever = d.both, d.both == 0
	}
	if ever {
		return
	}
	if d.ago(wroteCame, wroteStart) >= wait {
		d.end(api.EndHold)
	} else if d.state != api.SessionOpening && d.ago(wroteSent) >= wait/3 {
		d.send(alive)
	}
}

func (d *diary) start() {
	if d.state == api.SessionIdle {
		d.state, d.came, d.done = api.SessionOpening, nil, 0
		d.write(wroteStart)
		d.send(api.PvMessage{Kind: api.PvOpen, Domain: d.config.Domain, Id: d.config.Id, Hold: d.config.Hold})
	}
}

// receive reads all bytes since the start again, and goes on where it was.
func (d *diary) receive(b []byte) {
	if d.state == api.SessionIdle || len(b) == 0 {
		return
	}
	d.write(wroteCame)
	d.came = append(d.came, b...)
	messages, fault := pv.NewStream().Take(d.came)
	for d.done < len(messages) && d.state != api.SessionIdle {
		d.done++
		d.hear(messages[d.done-1])
	}
	if d.state != api.SessionIdle && fault != api.OK {
		d.end(api.EndBytes)
	}
}

// hear: at [how it stands][what comes] stands what is to be done.
func (d *diary) hear(m api.PvMessage) {
	const (
		place = iota
		told
		takeOpen
		takeUp
		takeUpdate
		nothing
	)
	switch [4][5]int{
		api.SessionOpening:    {api.PvOpen: takeOpen, api.PvNotice: told},
		api.SessionConfirming: {api.PvAlive: takeUp, api.PvNotice: told},
		api.SessionUp:         {api.PvUpdate: takeUpdate, api.PvAlive: nothing, api.PvNotice: told},
	}[d.state][m.Kind] {
	case place:
		d.end(api.EndPlace)
	case told:
		d.end(api.EndTold)
	case takeOpen:
		d.takeOpen(m)
	case takeUp:
		d.state = api.SessionUp
		d.out.Events = append(d.out.Events, api.SessionEvent{Kind: api.EventUp, Id: d.id, Hold: d.both})
	case takeUpdate:
		d.out.Events = append(d.out.Events, isTold(m))
	}
}

func (d *diary) takeOpen(m api.PvMessage) {
	if m.Domain != d.config.Peer {
		d.end(api.EndPeer)
		return
	}
	if m.Id == d.config.Id {
		d.end(api.EndSelf)
		return
	}
	if d.both = d.config.Hold; m.Hold < d.both {
		d.both = m.Hold
	}
	d.id, d.state = m.Id, api.SessionConfirming
	d.send(alive)
}

func (d *diary) tell(m api.PvMessage) api.Errno {
	if d.state != api.SessionUp {
		return api.ErrState
	}
	if m.Kind != api.PvUpdate {
		return api.ErrKind
	}
	if _, e := pv.Encode(m); e != api.OK {
		return e
	}
	d.send(m)
	return api.OK
}

// likely draws a message that mostly leads on.
func likely(r *rand.Rand, state int) api.PvMessage {
	with := api.PvMessage{Kind: api.PvOpen, Domain: 3, Id: 9, Hold: []int{0, 3, 4, 5, 6, 12, 40}[r.Intn(7)]}
	if r.Intn(12) == 0 {
		return []api.PvMessage{open, alive, update, notice(r.Intn(256)), {Kind: api.PvOpen, Domain: 4, Id: 9}, {Kind: api.PvOpen, Domain: 3, Id: 2}}[r.Intn(6)]
	}
	switch state {
	case api.SessionOpening:
		return with
	case api.SessionConfirming:
		return alive
	}
	return []api.PvMessage{alive, update, other}[r.Intn(3)]
}

// drawBytes draws what comes to a session that stands so: a few messages, whole, in part, or disturbed.
func drawBytes(r *rand.Rand, state int) []byte {
	var b []byte
	for range r.Intn(4) {
		b = append(b, as(likely(r, state))...)
		if state < api.SessionUp {
			state++
		}
	}
	if len(b) > 0 && r.Intn(25) == 0 {
		b[r.Intn(len(b))] ^= 1 << r.Intn(8)
	}
	return b
}

// play does the same call with both, and answers whether their answers are the same.
func play(r *rand.Rand, s *session.Session, d *diary, rest *[]byte, now int) (what string, e, want api.Errno, out api.SessionOut) {
	d.begin(now)
	switch r.Intn(12) {
	case 0, 1, 2:
		out, what = s.Tick(now), "Tick"
	case 3, 4:
		out, what = s.Start(now), "Start"
		d.start()
	case 5:
		if r.Intn(6) == 0 {
			out, what = s.Stop(now), "Stop"
			if d.state != api.SessionIdle {
				d.end(api.EndStop)
			}
			break
		}
		fallthrough
	case 6:
		m := []api.PvMessage{update, other, update, alive, {Kind: api.PvUpdate, Code: 1}, {Kind: 9}}[r.Intn(6)]
		out, e = s.Tell(m, now)
		what, want = "Tell", d.tell(m)
	default:
		if len(*rest) == 0 {
			*rest = drawBytes(r, s.State())
		}
		n := r.Intn(len(*rest) + 1)
		if r.Intn(2) == 0 {
			n = len(*rest)
		}
		out, what = s.Receive((*rest)[:n], now), "Receive"
		d.receive((*rest)[:n])
		*rest = (*rest)[n:]
	}
	return what, e, want, out
}

func TestK1ToK6AgainstDiary(t *testing.T) {
	r := rand.New(rand.NewSource(1))
	var seen [4]int
	events := map[string]int{}
	for range 4000 {
		c := api.SessionConfig{Domain: 1, Id: 2, Hold: []int{0, 3, 5, 12, 30}[r.Intn(5)], Peer: 3}
		s, d := made(t, c), &diary{config: c}
		now := 0
		var rest []byte
		for range 60 {
			now += []int{0, 0, 0, 1, 1, 2, 3, 4, -1, 12, 60}[r.Intn(11)]
			if s.State() == api.SessionIdle {
				rest = nil
			}
			what, e, want, out := play(r, s, d, &rest, now)
			if !bytes.Equal(out.Bytes, d.out.Bytes) || show(out.Events) != show(d.out.Events) || e != want || s.State() != d.state {
				t.Fatalf("%s at %d: %x %+v %v, state %d; must be %x %+v %v, state %d", what, now, out.Bytes, out.Events, e, s.State(), d.out.Bytes, d.out.Events, want, d.state)
			}
			seen[s.State()]++
			for _, x := range out.Events {
				x.Id, x.Hold, x.Message = 0, 0, api.PvMessage{}
				events[show(x)]++
			}
		}
	}
	for state, n := range seen {
		if n < 3000 {
			t.Errorf("state %d was seen only %d times", state, n)
		}
	}
	for _, x := range []api.SessionEvent{{Kind: api.EventUp}, {Kind: api.EventTold}, isDown(api.EndBytes), isDown(api.EndHold), isDown(api.EndPlace), isDown(api.EndStop), isDown(api.EndTold)} {
		if events[show(x)] < 50 {
			t.Errorf("%+v happened only %d times", x, events[show(x)])
		}
	}
}
