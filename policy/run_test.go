package policy_test

import (
	"fmt"
	"slices"
	"strings"
	"testing"

	"wayfinder/api"
	"wayfinder/pfx"
	"wayfinder/policy"
)

// outcome tells a second time what H7 says: what is still to be done lies in a list.
func outcome(f api.PolicyFile, name string, r api.Route, own int) (api.Route, int) {
	left := termsOf(f, name)
	for done := 0; len(left) > 0; {
		next := left[0]
		left = left[1:]
		if term, is := next.(api.Term); is {
			if isTrue(f, term.If, r) {
				left = slices.Concat(anyOf(term.Then), left)
			}
			continue
		}
		a := next.(api.Action)
		if done++; done > 4096 {
			break
		}
		switch a.Kind {
		case api.ActAccept:
			return r, api.Accept
		case api.ActReject:
			return api.Route{}, api.Reject
		case api.ActCall:
			left = slices.Concat(termsOf(f, a.Name), left)
		default:
			changed := turned(r, a, own)
			if grown := len(changed.Path); grown > len(r.Path) && grown > 64 {
				return api.Route{}, api.Reject
			}
			if grown := len(changed.Marks); grown > len(r.Marks) && grown > 32 {
				return api.Route{}, api.Reject
			}
			r = changed
		}
	}
	return api.Route{}, api.Reject
}

func anyOf[T any](list []T) []any {
	var out []any
	for _, x := range list {
		out = append(out, x)
	}
	return out
}

func termsOf(f api.PolicyFile, name string) []any {
	for _, p := range f.Policies {
		if p.Name == name {
			return anyOf(p.Terms)
		}
	}
	panic("no policy " + name)
}

// turned gives a route that an action has changed.
func turned(r api.Route, a api.Action, own int) api.Route {
	switch a.Kind {
	case api.ActPref:
		r.Pref = a.N
	case api.ActMed:
		r.Med = a.N
	case api.ActPrepend:
		r.Path = slices.Clone(r.Path)
		for range a.N {
			r.Path = slices.Insert(r.Path, 0, own)
		}
	case api.ActAdd:
		if slices.Contains(r.Marks, a.N) {
			break
		}
		i := 0
		for i < len(r.Marks) && r.Marks[i] < a.N {
			i++
		}
		r.Marks = slices.Insert(slices.Clone(r.Marks), i, a.N)
	case api.ActDrop:
		var kept []int
		for _, m := range r.Marks {
			if m != a.N {
				kept = append(kept, m)
			}
		}
		r.Marks = kept
	}
	return r
}

func isTrue(f api.PolicyFile, c api.Cond, r api.Route) bool {
	switch c.Kind {
	case api.CondPrefix:
		i := slices.IndexFunc(f.Sets, func(s api.PolicySet) bool { return s.Name == c.Name })
		for _, item := range f.Sets[i].Items {
			if pfx.Covers(item.Prefix, r.Prefix) && r.Prefix.Len <= item.To {
				return true
			}
		}
		return false
	case api.CondPath:
		i := slices.IndexFunc(f.Paths, func(p api.PolicyPath) bool { return p.Name == c.Name })
		return isOf(f.Paths[i].Pattern, r.Path)
	case api.CondMark:
		return slices.Contains(r.Marks, c.N)
	case api.CondCompare:
		n := map[int]int{api.FieldPref: r.Pref, api.FieldMed: r.Med, api.FieldLength: len(r.Path), api.FieldOrigin: r.Origin}[c.Field]
		return c.Op == api.OpEqual && n == c.N || c.Op == api.OpLess && n < c.N || c.Op == api.OpGreater && n > c.N
	case api.CondNot:
		return !isTrue(f, c.Sub[0], r)
	}
	for _, x := range c.Sub {
		if isTrue(f, x, r) == (c.Kind == api.CondOr) {
			return c.Kind == api.CondOr
		}
	}
	return c.Kind != api.CondOr
}

// runs holds Run, and Run of the code, to an answer.
func runs(t *testing.T, what string, f api.PolicyFile, name string, r api.Route, own int, want api.Route, how int) {
	t.Helper()
	before := show(r)
	got, h, e := policy.Run(f, name, r, own)
	if show(got) != show(want) || h != how || e != api.OK {
		t.Errorf("%s: Run: %+v %d %v, must be %+v %d", what, got, h, e, want, how)
	}
	c, e := policy.Compile(f)
	if e != api.OK {
		t.Fatalf("%s: Compile: %v", what, e)
	}
	for range 2 {
		got, h, e = c.Run(name, r, own)
		if show(got) != show(want) || h != how || e != api.OK {
			t.Errorf("%s: Run of the code: %+v %d %v, must be %+v %d", what, got, h, e, want, how)
		}
	}
	if show(r) != before {
		t.Errorf("%s: the route was changed", what)
	}
}

// accepts and rejects hold the policy p of a text to an answer.
func accepts(t *testing.T, text string, r, want api.Route) {
	t.Helper()
	runs(t, text, read(t, text), "p", r, 7, want, api.Accept)
}

func rejects(t *testing.T, text string, r api.Route) {
	t.Helper()
	runs(t, text, read(t, text), "p", r, 7, api.Route{}, api.Reject)
}

// asks holds a condition to a route.
func asks(t *testing.T, cond string, r api.Route, want bool) {
	t.Helper()
	text := "prefixes s { 10.0.0.0/8 to 24; 11.0.0.0/8; 0.0.0.0/0; } prefixes none { } paths one { 1 . * } policy p { if " + cond + " then accept; }"
	if want {
		accepts(t, text, r, r)
	} else {
		rejects(t, text, r)
	}
}

func TestH7Prefixes(t *testing.T) {
	for p, want := range map[api.Prefix]bool{
		ten: true, eleven: true, at(0, 0): true, at(0x0a000000, 24): true, at(0x0a010200, 24): true, at(0x0aff0000, 16): true,
		at(0x0a000000, 25): false, at(0x0a000001, 32): false, at(0x0b000000, 9): false, at(0x0a000000, 7): false, at(0, 1): false, at(0x0c000000, 8): false,
		at(0x0a000001, 24): false, at(0x0a000000, -1): false, at(0, -1): false, at(0, 33): false, at(1, 0): false,
	} {
		asks(t, "prefix s", api.Route{Prefix: p}, want)
		asks(t, "not prefix s", api.Route{Prefix: p}, !want)
		asks(t, "prefix none", api.Route{Prefix: p}, false)
	}
}

func TestH7PathsAndMarks(t *testing.T) {
	asks(t, "path one", api.Route{Path: []int{1, 5, 9}}, true)
	asks(t, "path one", api.Route{Path: []int{2, 1}}, false)
	asks(t, "path one", api.Route{}, false)
	asks(t, "mark 0:5", api.Route{Marks: []int{9, 5, 1}}, true)
	asks(t, "mark 0:5", api.Route{Marks: []int{9, 50, 1}}, false)
	asks(t, "mark 0:0", api.Route{}, false)
	asks(t, "mark 65535:65535", api.Route{Marks: []int{maxNumber}}, true)
	asks(t, "mark 1:0", api.Route{Marks: []int{65536}}, true)
}

func TestH7Compare(t *testing.T) {
	for word, turn := range map[string]func(*api.Route, int){
		"pref": func(r *api.Route, n int) { r.Pref = n }, "med": func(r *api.Route, n int) { r.Med = n }, "origin": func(r *api.Route, n int) { r.Origin = n },
		"length": func(r *api.Route, n int) { r.Path = slices.Repeat([]int{4}, n) },
	} {
		for _, n := range []int{-1, 0, 4, 5, 6, maxNumber + 5} {
			r := api.Route{Pref: 99, Med: 98, Origin: 97, Path: make([]int, 96)}
			if word == "length" && (n < 0 || n > 100) {
				continue
			}
			turn(&r, n)
			asks(t, word+" = 5", r, n == 5)
			asks(t, word+" < 5", r, n < 5)
			asks(t, word+" > 5", r, n > 5)
			asks(t, word+" = 0", r, n == 0)
			asks(t, word+" < 0", r, n < 0)
			asks(t, word+" > 4294967295", r, n > maxNumber)
		}
	}
}

func TestH7Joined(t *testing.T) {
	r := api.Route{Pref: 1}
	text := strings.NewReplacer("T", "pref = 1", "F", "pref = 2")
	for of, want := range map[string]bool{
		"T": true, "F": false, "not T": false, "not F": true, "not not T": true, "T and T": true, "T and F": false, "F and T": false, "T or F": true, "F or T": true, "F or F": false, "F or F or T": true, "T and T and F": false,
		"F and F or T": true, "F and ( F or T )": false, "T or F and F": true, "( T or F ) and F": false, "not ( T and F )": true, "not T or T": true, "not ( T or T )": false, "not F and not F": true,
	} {
		asks(t, text.Replace(of), r, want)
	}
}

func TestH7Actions(t *testing.T) {
	full := api.Route{Prefix: at(5, 3), Path: []int{3, 4}, Origin: 9, Pref: 8, Med: 6, Next: 44, Marks: []int{5, 9, 3, 20, 9}, Clusters: []int{2, 1}, Author: 77}
	turn := func(f func(*api.Route)) api.Route {
		r := full
		f(&r)
		return r
	}
	accepts(t, "policy p { then accept; }", full, full)
	accepts(t, "policy p { then accept; }", api.Route{}, api.Route{})
	accepts(t, "policy p { then pref 0, accept; }", full, turn(func(r *api.Route) { r.Pref = 0 }))
	accepts(t, "policy p { then med 4294967295, accept; }", full, turn(func(r *api.Route) { r.Med = maxNumber }))
	accepts(t, "policy p { then add 0:7, accept; }", full, turn(func(r *api.Route) { r.Marks = []int{5, 7, 9, 3, 20, 9} }))
	accepts(t, "policy p { then add 0:1; then accept; }", full, turn(func(r *api.Route) { r.Marks = []int{1, 5, 9, 3, 20, 9} }))
	accepts(t, "policy p { then add 0:10; then accept; }", full, turn(func(r *api.Route) { r.Marks = []int{5, 9, 3, 10, 20, 9} }))
	accepts(t, "policy p { then add 1:0, accept; }", full, turn(func(r *api.Route) { r.Marks = []int{5, 9, 3, 20, 9, 65536} }))
	accepts(t, "policy p { then add 0:3, accept; }", full, full)
	accepts(t, "policy p { then add 0:1, add 0:2, add 0:1, accept; }", api.Route{}, api.Route{Marks: []int{1, 2}})
	accepts(t, "policy p { then drop 0:9, accept; }", full, turn(func(r *api.Route) { r.Marks = []int{5, 3, 20} }))
	accepts(t, "policy p { then drop 0:8, accept; }", full, full)
	accepts(t, "policy p { then drop 0:1, accept; }", api.Route{Marks: []int{1, 1}}, api.Route{})
	accepts(t, "policy p { then prepend 1, accept; }", full, turn(func(r *api.Route) { r.Path = []int{7, 3, 4} }))
	accepts(t, "policy p { then prepend 3, accept; }", api.Route{}, api.Route{Path: []int{7, 7, 7}})
	rejects(t, "policy p { then pref 1, reject, accept; }", full)
	rejects(t, "policy p { }", full)
	rejects(t, "policy p { then pref 1; }", full)
	rejects(t, "policy p { if pref = 7 then accept; }", full)
	accepts(t, "policy p { then accept, reject; }", full, full)
	accepts(t, "policy p { if pref = 7 then reject; if pref = 8 then med 1; if med = 1 then accept; then reject; }", full, turn(func(r *api.Route) { r.Med = 1 }))
	runs(t, "own is any number", read(t, "policy p { then prepend 2, accept; }"), "p", api.Route{}, -5, api.Route{Path: []int{-5, -5}}, api.Accept)
}

// TestH7AsItIsThen: conditions ask for the route as it is then, and once for all actions of a term.
func TestH7AsItIsThen(t *testing.T) {
	accepts(t, "policy p { then pref 5; if pref = 5 then med 2; if med = 2 then accept; }", api.Route{}, api.Route{Pref: 5, Med: 2})
	accepts(t, "policy p { if pref = 0 then pref 5, med 1, accept; }", api.Route{}, api.Route{Pref: 5, Med: 1})
	accepts(t, "policy p { then add 0:4; if mark 0:4 then drop 0:4, pref 1; if not mark 0:4 then accept; }", api.Route{}, api.Route{Pref: 1})
	accepts(t, "paths x { 7 } paths y { } policy p { if path x then reject; if path y then prepend 1; if path y then reject; if path x then med 1; then prepend 1; if path x then reject; if length = 2 then accept; }", api.Route{}, api.Route{Path: []int{7, 7}, Med: 1})
	accepts(t, "prefixes s { 10.0.0.0/8; } policy p { if prefix s then prepend 1; if prefix s then prepend 1; if prefix s then accept; }", api.Route{Prefix: ten}, api.Route{Prefix: ten, Path: []int{7, 7}})
	accepts(t, "paths s { 7 } prefixes s { } policy p { if prefix s or path s then reject; then prepend 1; if prefix s then reject; if path s then accept; }", api.Route{}, api.Route{Path: []int{7}})
}

func TestH7Calls(t *testing.T) {
	accepts(t, "policy q { then pref 1; } policy p { then call q, med 2; then accept; }", api.Route{}, api.Route{Pref: 1, Med: 2})
	accepts(t, "policy p { then call q, reject; } policy q { if pref = 0 then med 1, accept; then reject; }", api.Route{}, api.Route{Med: 1})
	rejects(t, "policy p { then call q, accept; } policy q { if pref = 0 then reject; then accept; }", api.Route{})
	rejects(t, "policy p { then call q; } policy q { then pref 1; }", api.Route{})
	accepts(t, "policy p { then call q, call q, accept; } policy q { then prepend 1, call r; } policy r { then prepend 2; }", api.Route{}, api.Route{Path: []int{7, 7, 7, 7, 7, 7}})
	accepts(t, "policy p { then call q; if med = 1 then accept; } policy q { } policy r { then accept; }", api.Route{Med: 1}, api.Route{Med: 1})
}

func TestH7Names(t *testing.T) {
	f := read(t, "policy p { then accept; } prefixes s { } paths x { }")
	c, _ := policy.Compile(f)
	for _, name := range []string{"", "q", "s", "x", "P", "p ", "pp"} {
		for _, run := range []func() (api.Route, int, api.Errno){
			func() (api.Route, int, api.Errno) { return policy.Run(f, name, api.Route{Pref: 1}, 1) },
			func() (api.Route, int, api.Errno) { return c.Run(name, api.Route{Pref: 1}, 1) },
		} {
			if r, how, e := run(); show(r) != show(api.Route{}) || how != 0 || e != api.ErrName {
				t.Errorf("Run of %q: %+v %d %v", name, r, how, e)
			}
		}
	}
}

func TestH7PathsThatGrow(t *testing.T) {
	long := func(n int) api.Route { return api.Route{Path: slices.Repeat([]int{5}, n)} }
	grown := func(n, own int) api.Route {
		return api.Route{Path: append(slices.Repeat([]int{7}, own), long(n).Path...)}
	}
	accepts(t, "policy p { then prepend 1, accept; }", long(63), grown(63, 1))
	accepts(t, "policy p { then prepend 8, accept; }", long(56), grown(56, 8))
	rejects(t, "policy p { then prepend 8, accept; }", long(57))
	rejects(t, "policy p { then prepend 1, accept; }", long(64))
	rejects(t, "policy p { then prepend 1, accept; }", long(100))
	accepts(t, "policy p { then med 0, accept; }", long(64), long(64))
	accepts(t, "policy p { then med 0, add 0:1, drop 0:1, accept; }", long(1000), long(1000))
	rejects(t, "policy p { then call q, accept; } policy q { then prepend 1, prepend 1; }", long(63))
	accepts(t, "policy p { then accept, prepend 1; }", long(64), long(64))
}

func TestH7MarksThatGrow(t *testing.T) {
	many := func(n int) api.Route {
		var r api.Route
		for i := range n {
			r.Marks = append(r.Marks, 10*i)
		}
		return r
	}
	with := many(31)
	with.Marks = slices.Insert(with.Marks, 1, 5)
	accepts(t, "policy p { then add 0:5, accept; }", many(31), with)
	rejects(t, "policy p { then add 0:5, accept; }", many(32))
	rejects(t, "policy p { then add 0:5, accept; }", many(33))
	accepts(t, "policy p { then add 0:10, accept; }", many(32), many(32))
	accepts(t, "policy p { then add 0:10, accept; }", many(40), many(40))
	accepts(t, "policy p { then drop 0:390, accept; }", many(40), many(39))
	accepts(t, "policy p { then drop 0:5, prepend 1, drop 0:390, pref 0, accept; }", many(40), api.Route{Marks: many(39).Marks, Path: []int{7}})
	accepts(t, "policy p { then drop 0:310, add 0:5, accept; }", many(32), with)
}

// TestH7ManyActions: just api.MaxActions are carried out.
func TestH7ManyActions(t *testing.T) {
	same := func(n int, behind ...api.Action) []api.Action {
		return append(slices.Repeat([]api.Action{{Kind: api.ActPref, N: 3}}, n), behind...)
	}
	accept, call := api.Action{Kind: api.ActAccept}, api.Action{Kind: api.ActCall, Name: "q"}
	never := api.Term{If: api.Cond{Kind: api.CondCompare, Field: api.FieldMed, Op: api.OpLess, N: 0}, Then: same(9)}
	for what, c := range map[string]struct {
		p, q []api.Term
		how  int
	}{
		"4096 actions":                       {p: []api.Term{{Then: same(4095, accept)}}, how: api.Accept},
		"4097 actions":                       {p: []api.Term{{Then: same(4096, accept)}}, how: api.Reject},
		"4096 actions in terms":              {p: []api.Term{{Then: same(2000)}, never, {Then: same(2095)}, never, {Then: []api.Action{accept}}}, how: api.Accept},
		"4097 actions in terms":              {p: []api.Term{{Then: same(2000)}, never, {Then: same(2096)}, never, {Then: []api.Action{accept}}}, how: api.Reject},
		"4096 with a call":                   {p: []api.Term{{Then: []api.Action{call, accept}}}, q: []api.Term{{Then: same(4094)}}, how: api.Accept},
		"4097 with a call":                   {p: []api.Term{{Then: []api.Action{call, accept}}}, q: []api.Term{{Then: same(4095)}}, how: api.Reject},
		"4096 with one that ends in a call":  {p: []api.Term{{Then: same(4000, call)}}, q: []api.Term{{Then: same(94, accept)}}, how: api.Accept},
		"4097 with one that ends in a call":  {p: []api.Term{{Then: same(4000, call)}}, q: []api.Term{{Then: same(95, accept)}}, how: api.Reject},
		"a call is the last, and empty":      {p: []api.Term{{Then: same(4094, call, accept)}}, q: []api.Term{never}, how: api.Accept},
		"a call is one more, and empty":      {p: []api.Term{{Then: same(4095, call, accept)}}, q: []api.Term{never}, how: api.Reject},
		"what is in the last call":           {p: []api.Term{{Then: same(4095, call)}}, q: []api.Term{{Then: []api.Action{accept}}}, how: api.Reject},
		"what is in the last call but one":   {p: []api.Term{{Then: same(4094, call)}}, q: []api.Term{{Then: []api.Action{accept}}}, how: api.Accept},
		"those that do not come to the turn": {p: []api.Term{{Then: same(5, accept)}, {Then: same(5000)}}, how: api.Accept},
	} {
		want := api.Route{Pref: 3}
		if c.how == api.Reject {
			want = api.Route{}
		}
		f := api.PolicyFile{Policies: []api.Policy{{Name: "p", Terms: c.p}, {Name: "q", Terms: c.q}}}
		runs(t, what, f, "p", api.Route{Pref: 3}, 1, want, c.how)
	}
}

// live draws a file with which nothing is wrong: a policy calls later ones alone.
func (d draw) live() api.PolicyFile {
	var f api.PolicyFile
	for _, name := range []string{"a", "b"} {
		set := api.PolicySet{Name: name}
		for range d.Intn(3) {
			p := d.prefix()
			set.Items = append(set.Items, api.PolicyItem{Prefix: p, To: p.Len + d.Intn(33-p.Len)})
		}
		f.Sets = append(f.Sets, set)
		f.Paths = append(f.Paths, api.PolicyPath{Name: name, Pattern: d.pattern(d.Intn(3))})
	}
	for i := range 4 {
		p := api.Policy{Name: nameOf(i)}
		for range d.Intn(5) {
			term := d.term()
			term.If = d.known(term.If)
			for j := range term.Then {
				term.Then[j] = d.later(term.Then[j], i)
			}
			p.Terms = append(p.Terms, term)
		}
		f.Policies = append(f.Policies, p)
	}
	if d.Intn(2) == 0 {
		f.Policies[0].Terms = append(f.Policies[0].Terms, api.Term{Then: []api.Action{{Kind: api.ActAccept}}})
	}
	return f
}

// known gives a condition whose names are defined, and whose numbers are those that routes have.
func (d draw) known(c api.Cond) api.Cond {
	switch c.Kind {
	case api.CondPrefix, api.CondPath:
		c.Name = d.of("a", "b")
	case api.CondMark, api.CondCompare:
		c.N = d.Intn(4)
	}
	for i, x := range c.Sub {
		c.Sub[i] = d.known(x)
	}
	return c
}

func (d draw) later(a api.Action, i int) api.Action {
	if (a.Kind == api.ActAccept || a.Kind == api.ActReject) && d.Intn(2) == 0 || a.Kind == api.ActCall && i == 3 {
		a = api.Action{Kind: api.ActMed}
	}
	switch a.Kind {
	case api.ActCall:
		a.Name = nameOf(i + 1 + d.Intn(3-i))
	case api.ActPref, api.ActMed, api.ActAdd, api.ActDrop:
		a.N = d.Intn(4)
	}
	return a
}

func (d draw) numbers(most int) []int {
	out := make([]int, d.Intn(most+1))
	for i := range out {
		out[i] = d.Intn(4)
	}
	return out
}

func (d draw) route() api.Route {
	return api.Route{Prefix: d.prefix(), Path: d.numbers(5), Origin: d.Intn(3), Pref: d.Intn(4), Med: d.Intn(4), Next: d.Uint32(), Marks: d.numbers(4), Clusters: d.numbers(2), Author: d.Intn(9)}
}

func TestH7AnyPolicy(t *testing.T) {
	d := newDraw(8)
	count := map[int]int{}
	for range 3000 {
		f, r := d.live(), d.route()
		want, how := outcome(f, "p0", r, 2)
		count[how]++
		runs(t, show(f), f, "p0", r, 2, want, how)
		if t.Failed() {
			return
		}
	}
	if count[api.Accept] < 500 || count[api.Reject] < 500 {
		t.Errorf("accepted, rejected: %v", count)
	}
}

// TestH7Soon: a policy that asks for long sets and wide patterns again and again.
func TestH7Soon(t *testing.T) {
	var text strings.Builder
	text.WriteString("paths x { " + strings.Repeat(". * ", 1000) + "9 } paths y { " + strings.Repeat(". * ", 1000) + "5 } prefixes s { ")
	for i := range 200 {
		text.WriteString(fmt.Sprintf("1.1.%d.0/24; ", i))
	}
	text.WriteString("} policy p { then call q, call q, call q, call q, call q, call q, call q, call q, accept; } ")
	for _, c := range []string{"q r", "r s", "s t"} {
		name, next, _ := strings.Cut(c, " ")
		text.WriteString("policy " + name + " { then " + strings.Repeat("call "+next+", ", 7) + "call " + next + "; } ")
	}
	text.WriteString("policy t { " + strings.Repeat("if path x or not path y or prefix s then reject; ", 80) + " }")
	r := api.Route{Path: slices.Repeat([]int{5}, 64)}
	rejects(t, text.String(), r)
}
