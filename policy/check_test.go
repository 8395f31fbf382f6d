package policy_test

import (
	"fmt"
	"strings"
	"testing"

	"wayfinder/api"
	"wayfinder/policy"
)

// checks holds Check, Compile and Run to what is wrong with a file.
func checks(t *testing.T, what string, f api.PolicyFile, code api.Errno, name string) {
	t.Helper()
	e, n := policy.Check(f)
	if e != code || n != name {
		t.Errorf("Check of %s: %v %q, must be %v %q", what, e, n, code, name)
	}
	c, e := policy.Compile(f)
	if e != code || (c != nil) != (code == api.OK) {
		t.Errorf("Compile of %s: %v %v, must be %v", what, c, e, code)
	}
	if code == api.OK {
		return
	}
	for _, asked := range []string{"p", "nobody", ""} {
		if r, how, e := policy.Run(f, asked, api.Route{Pref: 1}, 1); show(r) != show(api.Route{}) || how != 0 || e != code {
			t.Errorf("Run of %s: %+v %d %v, must be %v", what, r, how, e, code)
		}
	}
}

func TestH5Check(t *testing.T) {
	for _, c := range []struct {
		text string
		code api.Errno
		name string
	}{
		{"", api.OK, ""},
		{"prefixes a { } paths a { } policy a { if prefix a and path a then call b; } policy b { }", api.OK, ""},
		{"prefixes a { } prefixes a { }", api.ErrTwice, "a"},
		{"prefixes a { } prefixes b { } prefixes c { } prefixes b { } prefixes a { }", api.ErrTwice, "b"},
		{"paths a { } paths b { 1 } paths b { }", api.ErrTwice, "b"},
		{"policy a { } policy a { }", api.ErrTwice, "a"},
		{"policy a { } policy a { } paths b { } paths b { } prefixes c { } prefixes c { }", api.ErrTwice, "c"},
		{"policy a { } policy a { } paths b { } paths b { }", api.ErrTwice, "b"},
		{"policy a { then call x; } policy a { then call a; }", api.ErrTwice, "a"},
		{"policy p { if prefix q then accept; } paths q { } policy q { }", api.ErrName, "q"},
		{"policy p { if path q then accept; } prefixes q { } policy q { }", api.ErrName, "q"},
		{"policy p { then call q; } prefixes q { } paths q { }", api.ErrName, "q"},
		{"policy p { then call a; if prefix b then accept; }", api.ErrName, "a"},
		{"policy p { if prefix b then call a; }", api.ErrName, "b"},
		{"policy p { if not ( med = 1 and ( path z or prefix y ) ) or path x then call a; }", api.ErrName, "z"},
		{"policy p { if med = 1 or prefix ok and path x then call a; } prefixes ok { }", api.ErrName, "x"},
		{"policy p { then accept, call b, call a; }", api.ErrName, "b"},
		{"policy p { then accept; } policy q { if path y then accept; if path x then accept; }", api.ErrName, "y"},
		{"policy p { then call p, call b; }", api.ErrName, "b"},
		{"policy q { then call q; } policy p { if path x then accept; }", api.ErrName, "x"},
		{"policy p { then call p; }", api.ErrLoop, "p"},
		{"policy p { then accept, call p; }", api.ErrLoop, "p"},
		{"policy p { if med = 1 then accept; if med = 2 and med = 3 then reject, call p; }", api.ErrLoop, "p"},
		{"policy p { then call q; } policy q { then call p; }", api.ErrLoop, "p"},
		{"policy a { then call b; } policy c { then call b; } policy b { then call c; }", api.ErrLoop, "c"},
		{"policy a { then call b; } policy b { then call b; }", api.ErrLoop, "b"},
		{"policy a { then call b, call b; } policy b { then call c; } policy c { }", api.OK, ""},
		{"policy a { then call b, call c; } policy b { then call d; } policy c { then call d; } policy d { }", api.OK, ""},
		{"policy d { } policy c { then call d; } policy b { then call c, call b; } policy a { then call a; }", api.ErrLoop, "b"},
		{"policy a { then call y; } policy b { then call a, call c; } policy c { then call b; } policy x { then call y; } policy y { then call x; }", api.ErrLoop, "b"},
	} {
		checks(t, c.text, read(t, c.text), c.code, c.name)
	}
}

func TestH5FormFirst(t *testing.T) {
	f := read(t, "prefixes a { } prefixes a { } policy p { if prefix x then call p; } policy q { }")
	checks(t, "a twice", f, api.ErrTwice, "a")
	f.Policies[1].Name = ""
	checks(t, "a name of nothing", f, api.ErrForm, "")
}

// nameOf gives the i-th name.
func nameOf(i int) string { return fmt.Sprint("p", i) }

// ofCalls makes policies that call each other.
func ofCalls(calls [][]int) api.PolicyFile {
	var f api.PolicyFile
	for i, list := range calls {
		p := api.Policy{Name: nameOf(i)}
		for _, to := range list {
			p.Terms = append(p.Terms, api.Term{Then: []api.Action{{Kind: api.ActPref}, {Kind: api.ActCall, Name: nameOf(to)}}})
		}
		f.Policies = append(f.Policies, p)
	}
	return f
}

// TestH5AnyCalls holds Check to the policies that are found to lead back to themselves by trying all ways.
func TestH5AnyCalls(t *testing.T) {
	d := newDraw(6)
	loops := 0
	for range 5000 {
		count := 1 + d.Intn(9)
		calls := make([][]int, count)
		var leads [9][9]bool
		for range d.Intn(count + 4) {
			i, j := d.Intn(count), d.Intn(count)
			calls[i] = append(calls[i], j)
			leads[i][j] = true
		}
		for by := range count {
			for i := range count {
				for j := range count {
					leads[i][j] = leads[i][j] || leads[i][by] && leads[by][j]
				}
			}
		}
		code, name := api.OK, ""
		for i := count - 1; i >= 0; i-- {
			if leads[i][i] {
				code, name = api.ErrLoop, nameOf(i)
			}
		}
		if code == api.ErrLoop {
			loops++
		}
		checks(t, fmt.Sprint(calls), ofCalls(calls), code, name)
	}
	if loops < 1000 || loops > 4000 {
		t.Errorf("%d of 5000 have a loop", loops)
	}
}

// TestH5LongRows: a row of calls may be of any length, and be told in any order.
func TestH5LongRows(t *testing.T) {
	const count = 100000
	up, down := make([][]int, count), make([][]int, count)
	for i := range count - 1 {
		up[i], down[i+1] = []int{i + 1}, []int{i}
	}
	f, g := ofCalls(up), ofCalls(down)
	for _, x := range []api.PolicyFile{f, g} {
		if e, name := policy.Check(x); e != api.OK || name != "" {
			t.Fatalf("Check of a long row: %v %q", e, name)
		}
	}
	f.Policies[count-1].Terms = []api.Term{{Then: []api.Action{{Kind: api.ActCall, Name: nameOf(count - 2)}}}}
	if e, name := policy.Check(f); e != api.ErrLoop || name != nameOf(count-2) {
		t.Errorf("Check of a row with a loop at its end: %v %q", e, name)
	}
	f.Policies[count-1].Terms[0].Then[0].Name = nameOf(0)
	if e, name := policy.Check(f); e != api.ErrLoop || name != nameOf(0) {
		t.Errorf("Check of a long loop: %v %q", e, name)
	}
}

func TestH5NamesOfAllLengths(t *testing.T) {
	for n := 1; n <= api.MaxWord; n++ {
		name := strings.Repeat("x", n)
		checks(t, name, read(t, "policy p { if prefix "+name+" then accept; }"), api.ErrName, name)
	}
}
