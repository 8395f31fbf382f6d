package policy

import "wayfinder/api"

// What a state does.
const (
	stateEnd    = iota // the path must end here
	stateDead          // nothing leads on
	stateNumber        // the number n leads on
	stateAny           // any number leads on
	stateFork          // two ways lead on, without a number
)

// The states that every machine has.
const (
	endState  = 0
	deadState = 1
)

type state struct {
	kind, n     int
	then, other int // where it leads on; other is a fork's second way
}

// machine reads paths, in all states that a path may lead to at once: so a path takes as many steps as it has numbers, each over at most all states, however the pattern is nested.
type machine struct {
	states []state
	begin  int
}

func machineOf(p api.Pattern) *machine {
	m := &machine{states: []state{endState: {kind: stateEnd}, deadState: {kind: stateDead}}}
	m.begin = m.build(p, endState)
	return m
}

func (m *machine) add(s state) int {
	m.states = append(m.states, s)
	return len(m.states) - 1
}

func (m *machine) fork(then, other int) int {
	return m.add(state{kind: stateFork, then: then, other: other})
}

// build adds the states of a pattern, behind which it goes on at a state, and answers where they begin.
func (m *machine) build(p api.Pattern, behind int) int {
	switch p.Kind {
	case api.PatNumber:
		return m.add(state{kind: stateNumber, n: p.N, then: behind})
	case api.PatAny:
		return m.add(state{kind: stateAny, then: behind})
	case api.PatSeq:
		for i := len(p.Sub) - 1; i >= 0; i-- {
			behind = m.build(p.Sub[i], behind)
		}
		return behind
	case api.PatAlt:
		begin := deadState
		for _, part := range p.Sub {
			begin = m.fork(m.build(part, behind), begin)
		}
		return begin
	case api.PatStar, api.PatPlus, api.PatMaybe:
		if len(p.Sub) == 1 {
			return m.repeat(p.Kind, p.Sub[0], behind)
		}
	}
	return deadState
}

func (m *machine) repeat(kind int, part api.Pattern, behind int) int {
	if kind == api.PatMaybe {
		return m.fork(m.build(part, behind), behind)
	}
	again := m.fork(deadState, behind)
	begin := m.build(part, again)
	m.states[again].then = begin
	if kind == api.PatPlus {
		return begin
	}
	return again
}

// takes says whether a path leads to the end.
func (m *machine) takes(path []int) bool {
	f := front{states: m.states, since: make([]int, len(m.states)), step: 1}
	f.reach(m.begin)
	f.spread()
	for _, n := range path {
		f.advance(n)
	}
	return f.since[endState] == f.step
}

// front is the states to which a path has led.
type front struct {
	states    []state
	at, spare []int
	since     []int // the step at which a state was reached the last time
	step      int   // from 1 on
}

func (f *front) reach(i int) {
	if f.since[i] != f.step {
		f.since[i] = f.step
		f.at = append(f.at, i)
	}
}

// spread reaches all to which forks lead; the list grows as it is gone through.
func (f *front) spread() {
	for i := 0; i < len(f.at); i++ {
		if s := f.states[f.at[i]]; s.kind == stateFork {
			f.reach(s.then)
			f.reach(s.other)
		}
	}
}

func (f *front) advance(n int) {
	f.at, f.spare = f.spare[:0], f.at
	f.step++
	for _, i := range f.spare {
		if s := f.states[i]; s.kind == stateAny || s.kind == stateNumber && s.n == n {
			f.reach(s.then)
		}
	}
	f.spread()
}
