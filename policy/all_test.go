package policy_test

import (
	"math"
	"slices"
	"strings"
	"sync"
	"testing"

	"wayfinder/api"
	"wayfinder/policy"
)

const whole = `
prefixes a { 10.0.0.0/8 to 24; 11.0.0.0/8; }
paths b { 7 + ( 8 | 9 . ) * }
policy p { if not ( prefix a and path b ) and mark 0:5 then reject; if length < 9 or med = 1 then add 0:6, call q; then accept; }
policy q { if pref = 0 then prepend 2, pref 5, drop 0:9; if path b then med 4; }`

// aRoute is what the policy p of whole turns into aWant, for the domain 7.
func aRoute() api.Route {
	return api.Route{Prefix: ten, Path: []int{7, 8}, Marks: []int{5, 9}, Clusters: []int{1, 2}, Next: 3}
}

func aWant() api.Route {
	return api.Route{Prefix: ten, Path: []int{7, 7, 7, 8}, Pref: 5, Med: 4, Marks: []int{5, 6}, Clusters: []int{1, 2}, Next: 3}
}

// spoil writes over all of a list, and over the spare room behind it.
func spoil[T any](l []T) { clear(l[:cap(l)]) }

// spoilFile writes over all lists of a file.
func spoilFile(f api.PolicyFile) {
	for _, s := range f.Sets {
		spoil(s.Items)
	}
	for _, p := range f.Paths {
		spoilPattern(p.Pattern)
	}
	for _, p := range f.Policies {
		for _, term := range p.Terms {
			spoilCond(term.If)
			spoil(term.Then)
		}
		spoil(p.Terms)
	}
	spoil(f.Sets)
	spoil(f.Paths)
	spoil(f.Policies)
}

func spoilPattern(p api.Pattern) {
	for _, x := range p.Sub {
		spoilPattern(x)
	}
	spoil(p.Sub)
}

func spoilCond(c api.Cond) {
	for _, x := range c.Sub {
		spoilCond(x)
	}
	spoil(c.Sub)
}

// TestH8Code: code answers what it did, however often it is asked, whatever becomes of the file.
func TestH8Code(t *testing.T) {
	f := read(t, whole)
	c, e := policy.Compile(f)
	if e != api.OK || c == nil {
		t.Fatalf("Compile: %v %v", c, e)
	}
	ask := func(what string) {
		t.Helper()
		for range 3 {
			r, how, e := c.Run("p", aRoute(), 7)
			if show(r) != show(aWant()) || how != api.Accept || e != api.OK {
				t.Fatalf("%s: %+v %d %v", what, r, how, e)
			}
			r, how, e = c.Run("p", api.Route{Prefix: at(0, 0), Marks: []int{5}}, 7)
			if show(r) != show(api.Route{}) || how != api.Reject || e != api.OK {
				t.Fatalf("%s: %+v %d %v", what, r, how, e)
			}
			if r, how, e = c.Run("nobody", aRoute(), 7); show(r) != show(api.Route{}) || how != 0 || e != api.ErrName {
				t.Fatalf("%s: %+v %d %v", what, r, how, e)
			}
		}
	}
	ask("as it is")
	f.Policies[0].Name, f.Sets[0].Name, f.Paths[0].Name = "x", "x", "x"
	f.Sets[0].Items[0].To = 0
	f.Paths[0].Pattern.Sub[0].Kind = 99
	f.Policies[1].Terms[1].Then[0].N = 77
	f.Policies[0].Terms[0].If.Sub[0].Sub[0].Sub[0].Name = "z"
	ask("when the file was changed")
	spoilFile(f)
	ask("when the file is gone")
}

func TestH8AnyFile(t *testing.T) {
	d := newDraw(9)
	for range 500 {
		f := d.live()
		c, e := policy.Compile(f)
		if e != api.OK {
			t.Fatalf("Compile of %+v: %v", f, e)
		}
		var routes, answers []string
		var asked []api.Route
		for range 4 {
			r := d.route()
			got, how, e := policy.Run(f, "p1", r, 3)
			asked, routes, answers = append(asked, r), append(routes, show(r)), append(answers, show([]any{got, how, e}))
		}
		spoilFile(f)
		for i, r := range asked {
			got, how, e := c.Run("p1", r, 3)
			if show([]any{got, how, e}) != answers[i] || show(r) != routes[i] {
				t.Fatalf("Run of the code: %v %v %v, must be %s", got, how, e, answers[i])
			}
		}
	}
}

// TestH8AtOnce: asking changes nothing, so many may ask at once.
func TestH8AtOnce(t *testing.T) {
	c, _ := policy.Compile(read(t, whole))
	var all sync.WaitGroup
	wrong := make([]string, 8)
	for i := range wrong {
		all.Add(1)
		go func() {
			defer all.Done()
			for range 200 {
				if r, how, e := c.Run("p", aRoute(), 7); show(r) != show(aWant()) || how != api.Accept || e != api.OK {
					wrong[i] = show(r)
				}
			}
		}()
	}
	all.Wait()
	same(t, "those that ask at once", wrong, make([]string, 8))
}

func TestP1AnyText(t *testing.T) {
	d := newDraw(10)
	const bytes = "policy{}();,|*+?=<> \n#09-.:/\x00\xff\xc3"
	for range 3000 {
		b := make([]byte, d.Intn(60))
		for i := range b {
			b[i] = bytes[d.Intn(len(bytes))]
		}
		code, at := refused(string(b))
		if code < 0 || at < 0 || at > len(b) {
			t.Fatalf("Parse of %q: %v at %d", b, code, at)
		}
	}
}

// TestP1AnyFile: whatever a file has, each call ends; those that may not be asked answer an error alone.
func TestP1AnyFile(t *testing.T) {
	d := newDraw(11)
	for range 3000 {
		f := d.file()
		d.disturb(&f)
		text, e := policy.Print(f)
		code, name := policy.Check(f)
		if (e == api.ErrForm) != (code == api.ErrForm) || e != api.OK && text != "" || (code == api.OK || code == api.ErrForm) && name != "" {
			t.Fatalf("Print of %+v: %q %v; Check: %v %q", f, text, e, code, name)
		}
		c, e := policy.Compile(f)
		if e != code || (c == nil) != (e != api.OK) {
			t.Fatalf("Compile of %+v: %v", f, e)
		}
		r, how, e := policy.Run(f, d.name(), d.route(), d.number())
		if code != api.OK && e != code || e != api.OK && (how != 0 || show(r) != show(api.Route{})) || e == api.OK && how != api.Accept && how != api.Reject {
			t.Fatalf("Run of %+v: %+v %d %v", f, r, how, e)
		}
	}
}

// disturb changes a few numbers and names of a file to any.
func (d draw) disturb(f *api.PolicyFile) {
	for i := range f.Policies {
		for j := range f.Policies[i].Terms {
			term := &f.Policies[i].Terms[j]
			if d.Intn(4) == 0 {
				term.If.Kind = append(beyond, 0, 1, 2, 3, 4, 5, 6, 7)[d.Intn(13)]
			}
			if d.Intn(8) == 0 {
				term.Then[0].Kind = append(beyond, 0, 1, 8)[d.Intn(8)]
			}
		}
	}
	for i := range f.Paths {
		if d.Intn(4) == 0 {
			f.Paths[i].Pattern.Kind = append(beyond, 0, 1, 2, 3, 4, 5, 6, 7)[d.Intn(13)]
		}
	}
	for i := range f.Sets {
		if d.Intn(4) == 0 {
			f.Sets[i].Name = d.of("", "A", "\x00", "a")
		}
	}
}

// TestP1AnyRoute: a route may have what no route has.
func TestP1AnyRoute(t *testing.T) {
	c, _ := policy.Compile(read(t, whole))
	for _, n := range append(beyond, 0, 1) {
		r := api.Route{Prefix: at(1, n), Path: []int{n, n}, Origin: n, Pref: n, Med: n, Marks: []int{n, n}, Author: n}
		got, how, e := c.Run("p", r, n)
		if how != api.Accept || e != api.OK || got.Prefix != r.Prefix || got.Origin != n || got.Author != n {
			t.Errorf("%+v: %+v %d %v", r, got, how, e)
		}
	}
	if policy.Match(api.Pattern{Kind: math.MinInt, N: math.MaxInt}, []int{math.MinInt}) {
		t.Error("a pattern of no kind takes a path")
	}
}

func TestP2OnlyRead(t *testing.T) {
	r := aRoute()
	path, marks, clusters := []int{7, 8, 91, 92, 93, 94, 95}, []int{5, 9, 81, 82, 83}, []int{1, 2, 71}
	r.Path, r.Marks, r.Clusters = path[:2], marks[:2], clusters[:2]
	f := read(t, whole)
	before := show(f)
	c, _ := policy.Compile(f)
	for range 2 {
		got, _, _ := policy.Run(f, "p", r, 7)
		again, _, _ := c.Run("p", r, 7)
		same(t, "Run", got, aWant())
		same(t, "Run of the code", again, aWant())
	}
	policy.Match(f.Paths[0].Pattern, path[:2])
	policy.Print(f)
	policy.Check(f)
	same(t, "the file", show(f), before)
	same(t, "the route's lists", [][]int{path, marks, clusters}, [][]int{{7, 8, 91, 92, 93, 94, 95}, {5, 9, 81, 82, 83}, {1, 2, 71}})
}

// TestP2AnswersAreTheCallers: what is answered shares nothing with what was handed in, nor with another answer, nor one list with another.
func TestP2AnswersAreTheCallers(t *testing.T) {
	for _, text := range []string{whole, "policy p { then accept; }", "policy p { then add 0:9, drop 0:1, accept; }"} {
		c, _ := policy.Compile(read(t, text))
		r := aRoute()
		first, _, _ := c.Run("p", r, 7)
		want := show(first)
		second, _, _ := c.Run("p", r, 7)
		spoil(r.Path)
		spoil(r.Marks)
		spoil(r.Clusters)
		spoil(second.Path)
		spoil(second.Marks)
		spoil(second.Clusters)
		same(t, text, show(first), want)
		third, _, _ := c.Run("p", aRoute(), 7)
		spoil(first.Path)
		same(t, text, show(third), want)
		_, _ = append(third.Path, 1, 2, 3), append(third.Marks, 1, 2, 3)
		same(t, text, show(third), want)
	}
	f, g := read(t, whole), read(t, whole)
	want := show(g)
	spoilFile(f)
	same(t, "another file", show(g), want)
}

func TestP2NoTwoListsShare(t *testing.T) {
	f := read(t, strings.Repeat("prefixes a { 10.0.0.0/8; } paths p { 1 2 | 3 ( 4 | 5 ) * } policy q { if med = 1 and ( pref = 2 or not origin = 3 ) then accept, reject; then accept; } ", 3))
	want := show(f)
	// Whoever puts more behind a list writes into its spare room, which must be nobody else's.
	for i := range f.Sets {
		_ = append(f.Sets[i].Items, api.PolicyItem{To: 99})
	}
	for i := range f.Paths {
		fillPattern(f.Paths[i].Pattern)
	}
	for i := range f.Policies {
		for _, term := range f.Policies[i].Terms {
			fillCond(term.If)
			_ = append(term.Then, slices.Repeat([]api.Action{{Kind: 99}}, cap(term.Then)-len(term.Then))...)
		}
		_ = append(f.Policies[i].Terms, api.Term{Then: []api.Action{{Kind: 99}}})
	}
	_, _, _ = append(f.Sets, api.PolicySet{Name: "z"}), append(f.Paths, api.PolicyPath{Name: "z"}), append(f.Policies, api.Policy{Name: "z"})
	same(t, "the file", show(f), want)
}

func fillPattern(p api.Pattern) {
	_ = append(p.Sub, slices.Repeat([]api.Pattern{{Kind: 99}}, cap(p.Sub)-len(p.Sub))...)
	for _, x := range p.Sub {
		fillPattern(x)
	}
}

func fillCond(c api.Cond) {
	_ = append(c.Sub, slices.Repeat([]api.Cond{{Kind: 99}}, cap(c.Sub)-len(c.Sub))...)
	for _, x := range c.Sub {
		fillCond(x)
	}
}

func TestP3OnNothingElse(t *testing.T) {
	one, _ := policy.Compile(read(t, "policy p { then prepend 1, add 0:1, accept; }"))
	two, _ := policy.Compile(read(t, "policy p { then reject; }"))
	for range 3 {
		if r, how, _ := one.Run("p", api.Route{}, 5); how != api.Accept || show(r) != show(api.Route{Path: []int{5}, Marks: []int{1}}) {
			t.Errorf("the first: %+v %d", r, how)
		}
		if r, how, _ := two.Run("p", api.Route{}, 5); how != api.Reject || show(r) != show(api.Route{}) {
			t.Errorf("the second: %+v %d", r, how)
		}
		refuses(t, "paths p { ( ( ( ( ( (", api.ErrText, 21)
		refuses(t, "paths p { "+strings.Repeat("( ", 33), api.ErrFull, 74)
		takes(t, "paths p { "+strings.Repeat("( ", 32)+strings.Repeat(") ", 32)+"}")
	}
}
