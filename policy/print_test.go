package policy_test

import (
	"fmt"
	"slices"
	"strings"
	"testing"

	"wayfinder/api"
	"wayfinder/policy"
)

// printed gives the text of a well-formed file.
func printed(t *testing.T, f api.PolicyFile) string {
	t.Helper()
	text, e := policy.Print(f)
	if e != api.OK {
		t.Fatalf("Print of %+v: %v", f, e)
	}
	return text
}

func TestH4Layout(t *testing.T) {
	for text, want := range map[string]string{
		"": "",
		"policy p { if med > 5 then pref 200, accept; }": "policy p {\nif med > 5 then pref 200 , accept ;\n}\n",
		"policy p{}":       "policy p {\n}\n",
		"prefixes a{}":     "prefixes a {\n}\n",
		"paths a{}":        "paths a {\n\n}\n",
		"paths a{()}":      "paths a {\n\n}\n",
		"paths a{(1|2)*3}": "paths a {\n( 1 | 2 ) * 3\n}\n",
		"prefixes a{10.0.0.0/8 to 8;1.2.3.4/32;0.0.0.0/0 to 1;}": "prefixes a {\n10.0.0.0/8 ;\n1.2.3.4/32 ;\n0.0.0.0/0 to 1 ;\n}\n",
		"policy z{then accept;}policy y{then add 65535:65535,drop 0:0,prepend 8,call z,med 0;then reject;}paths x{1}prefixes w{}paths v{.}prefixes u{}": "prefixes w {\n}\nprefixes u {\n}\npaths x {\n1\n}\npaths v {\n.\n}\npolicy z {\nthen accept ;\n}\npolicy y {\nthen add 65535:65535 , drop 0:0 , prepend 8 , call z , med 0 ;\nthen reject ;\n}\n",
		"policy p{if not(prefix a and path b)or mark 1:2 then accept;if pref=0 then reject;if length<4294967295 and origin>1 then accept;}":             "policy p {\nif not ( prefix a and path b ) or mark 1:2 then accept ;\nif pref = 0 then reject ;\nif length < 4294967295 and origin > 1 then accept ;\n}\n",
	} {
		same(t, text, printed(t, read(t, text)), want)
	}
}

func TestH4Brackets(t *testing.T) {
	text := strings.NewReplacer("A", "pref = 1", "B", "med < 2", "C", "length > 3")
	// Those that need none, and those that have just what they need, stay as they are.
	for _, of := range []string{
		"A", "not A", "not not A", "A and B", "A or B", "A and B and C", "A or B or C", "A and B or C", "A or B and C", "not A and B", "not A or not B",
		"A and ( B and C )", "( A and B ) and C", "A and ( B or C )", "( A or B ) and C", "A or ( B or C )", "( A or B ) or C",
		"not ( A and B )", "not ( A or B )", "not not ( A or B )", "not ( not A and not B )", "( A or B ) and ( B or C )", "A and B or B and C or not ( A or B )",
		"( ( A or B ) and C ) and A", "A or ( A and B or C )",
	} {
		of = text.Replace(of)
		same(t, of, printed(t, read(t, "policy p { if "+of+" then accept; }")), "policy p {\nif "+of+" then accept ;\n}\n")
	}
	for _, of := range []string{
		"1", ".", "1 2", "1 | 2", "1 2 | 3 4", "|", "1 |", "| 1", "| |", "1 * + ?", "1 2 * | . ?",
		"( 1 2 ) 3", "1 ( 2 3 )", "1 ( )", "( ) 1", "( ) ( )", "( ) *", "( ) +", "( ) ?", "( 1 2 ) *", "( 1 2 ) +", "( 1 2 ) ?",
		"( 1 | 2 ) | 3", "1 | ( 2 | 3 )", "1 ( 2 | 3 )", "( 1 | 2 ) *", "( 1 | 2 ) +", "( 1 | 2 ) ?", "( | ) *", "( 1 ( | ) ) * 2",
	} {
		same(t, of, printed(t, read(t, "paths p { "+of+" }")), "paths p {\n"+of+"\n}\n")
	}
	// Those that need not be are left out.
	for of, want := range map[string]string{
		"( A )": "A", "( A and B )": "A and B", "( A or B )": "A or B", "( A and B ) or C": "A and B or C", "A or ( B and C )": "A or B and C", "not ( A )": "not A", "( not A ) and B": "not A and B", "not ( not A )": "not not A",
	} {
		same(t, of, printed(t, read(t, "policy p { if "+text.Replace(of)+" then accept; }")), "policy p {\nif "+text.Replace(want)+" then accept ;\n}\n")
	}
	for of, want := range map[string]string{
		"( 1 )": "1", "( 1 2 ) | 3": "1 2 | 3", "( ) | 1": "| 1", "( 1 ) *": "1 *", "( 1 * ) *": "1 * *", "( 1 * ) 2": "1 * 2", "( 1 | 2 )": "1 | 2", "( | )": "|", "( . ) ( 1 + )": ". 1 +",
	} {
		same(t, of, printed(t, read(t, "paths p { "+of+" }")), "paths p {\n"+want+"\n}\n")
	}
}

// laid joins tokens as H4 says.
func laid(tokens []string) string {
	var out strings.Builder
	pattern := false
	for i, token := range tokens {
		out.WriteString(token)
		pattern = pattern || i >= 2 && tokens[i-2] == "paths" && token == "{"
		ends := pattern && i+1 < len(tokens) && tokens[i+1] == "}"
		switch {
		case ends && token == "{":
			out.WriteString("\n\n")
		case ends || strings.Contains("{};", token):
			out.WriteString("\n")
		default:
			out.WriteString(" ")
		}
		pattern = pattern && !ends
	}
	return out.String()
}

// bare gives the tokens without the i-th one, which is a bracket, and the one that closes it.
func bare(tokens []string, i int) []string {
	open := 0
	for j := i; ; j++ {
		switch tokens[j] {
		case "(":
			open++
		case ")":
			open--
		}
		if open == 0 {
			return slices.Concat(tokens[:i], tokens[i+1:j], tokens[j+1:])
		}
	}
}

// TestH4AnyFile: the text is of that file, it is laid out as it must be, and no pair of its brackets may be missing.
func TestH4AnyFile(t *testing.T) {
	d := newDraw(4)
	pairs := 0
	for range 2000 {
		f := d.file()
		text := printed(t, f)
		same(t, text, read(t, text), f)
		tokens := strings.Fields(text)
		if want := laid(tokens); text != want {
			t.Fatalf("it is\n%q\nand must be\n%q", text, want)
		}
		for i, token := range tokens {
			if token != "(" {
				continue
			}
			pairs++
			if g, err := policy.Parse(strings.Join(bare(tokens, i), " ")); err == nil && show(g) == show(f) {
				t.Fatalf("a bracket of %q need not be", text)
			}
		}
	}
	if pairs < 1000 {
		t.Errorf("only %d pairs of brackets", pairs)
	}
}

// ofAll is a well-formed file in which each kind stands once at least.
func ofAll() api.PolicyFile {
	num, dot := api.Pattern{Kind: api.PatNumber, N: 7}, api.Pattern{Kind: api.PatAny}
	compare := api.Cond{Kind: api.CondCompare, Field: api.FieldMed, Op: api.OpLess, N: 5}
	mark := api.Cond{Kind: api.CondMark, N: 5}
	return api.PolicyFile{
		Sets: []api.PolicySet{{Name: "s", Items: []api.PolicyItem{{Prefix: ten, To: 24}}}},
		Paths: []api.PolicyPath{
			{Name: "number", Pattern: num}, {Name: "any", Pattern: dot}, {Name: "none", Pattern: api.Pattern{Kind: api.PatSeq}},
			{Name: "seq", Pattern: api.Pattern{Kind: api.PatSeq, Sub: []api.Pattern{num, dot}}}, {Name: "alt", Pattern: api.Pattern{Kind: api.PatAlt, Sub: []api.Pattern{num, dot}}},
			{Name: "star", Pattern: api.Pattern{Kind: api.PatStar, Sub: []api.Pattern{num}}}, {Name: "plus", Pattern: api.Pattern{Kind: api.PatPlus, Sub: []api.Pattern{num}}}, {Name: "maybe", Pattern: api.Pattern{Kind: api.PatMaybe, Sub: []api.Pattern{num}}},
		},
		Policies: []api.Policy{{Name: "p", Terms: []api.Term{
			{Then: []api.Action{{Kind: api.ActAccept}, {Kind: api.ActReject}, {Kind: api.ActPref, N: 1}, {Kind: api.ActMed, N: 1}, {Kind: api.ActAdd, N: 1}, {Kind: api.ActDrop, N: 1}, {Kind: api.ActPrepend, N: 1}, {Kind: api.ActCall, Name: "q"}}},
			{If: api.Cond{Kind: api.CondPrefix, Name: "s"}, Then: []api.Action{{Kind: api.ActAccept}}}, {If: api.Cond{Kind: api.CondPath, Name: "seq"}, Then: []api.Action{{Kind: api.ActAccept}}},
			{If: mark, Then: []api.Action{{Kind: api.ActAccept}}}, {If: compare, Then: []api.Action{{Kind: api.ActAccept}}},
			{If: api.Cond{Kind: api.CondAnd, Sub: []api.Cond{mark, compare}}, Then: []api.Action{{Kind: api.ActAccept}}}, {If: api.Cond{Kind: api.CondOr, Sub: []api.Cond{mark, compare}}, Then: []api.Action{{Kind: api.ActAccept}}},
			{If: api.Cond{Kind: api.CondNot, Sub: []api.Cond{mark}}, Then: []api.Action{{Kind: api.ActAccept}}},
		}}, {Name: "q"}},
	}
}

// unformed holds Print and Check to a file that is not well formed, or that is.
func unformed(t *testing.T, what string, f api.PolicyFile, well bool) {
	t.Helper()
	text, e := policy.Print(f)
	c, name := policy.Check(f)
	if well && (e != api.OK || c == api.ErrForm) || !well && (e != api.ErrForm || text != "" || c != api.ErrForm || name != "") {
		t.Errorf("%s: Print %q %v, Check %v %q; well formed: %v", what, text, e, c, name, well)
	}
}

func TestH4Names(t *testing.T) {
	for _, name := range []string{"", "A", "aB", "0", "9a", "-a", "a_", "a.b", "a b", "a:", "a/", "é", "aé", "a\x00", "a\n", "abcdefghijklmnopq", "a", "a-", "z9", "abcdefghijklmnop"} {
		well := name == "a" || name == "a-" || name == "z9" || name == "abcdefghijklmnop"
		for i, turn := range []func(*api.PolicyFile){
			func(f *api.PolicyFile) { f.Sets[0].Name = name },
			func(f *api.PolicyFile) { f.Paths[3].Name = name },
			func(f *api.PolicyFile) { f.Policies[0].Name = name },
			func(f *api.PolicyFile) { f.Policies[0].Terms[0].Then[7].Name = name },
			func(f *api.PolicyFile) { f.Policies[0].Terms[1].If.Name = name },
			func(f *api.PolicyFile) { f.Policies[0].Terms[2].If.Name = name },
		} {
			f := ofAll()
			turn(&f)
			unformed(t, fmt.Sprintf("name %d %q", i, name), f, well)
		}
	}
}

func TestH4Items(t *testing.T) {
	for _, c := range []struct {
		prefix api.Prefix
		to     int
		well   bool
	}{
		{ten, 8, true}, {ten, 32, true}, {ten, 7, false}, {ten, 33, false}, {ten, 0, false}, {ten, -1, false}, {at(0, 0), 0, true}, {at(0, 0), 32, true}, {at(0, 0), -1, false},
		{at(1, 32), 32, true}, {at(1, 32), 31, false}, {at(1, 31), 32, false}, {at(0, 33), 33, false}, {at(0, 33), 32, false}, {at(0, -1), 0, false}, {at(0, -1), -1, false}, {at(0x0a000001, 8), 8, false},
	} {
		f := ofAll()
		f.Sets[0].Items[0] = api.PolicyItem{Prefix: c.prefix, To: c.to}
		unformed(t, fmt.Sprint("item ", c), f, c.well)
	}
}

func TestH4Patterns(t *testing.T) {
	f := ofAll()
	num := f.Paths[0].Pattern
	counts := map[int]func(int) bool{
		api.PatNumber: func(n int) bool { return n == 0 }, api.PatAny: func(n int) bool { return n == 0 }, api.PatSeq: func(n int) bool { return n != 1 }, api.PatAlt: func(n int) bool { return n >= 2 },
		api.PatStar: func(n int) bool { return n == 1 }, api.PatPlus: func(n int) bool { return n == 1 }, api.PatMaybe: func(n int) bool { return n == 1 },
	}
	for _, kind := range append([]int{0, 1, 2, 3, 4, 5, 6, 7, 8, 99}, beyond...) {
		for count := range 5 {
			for _, n := range append([]int{0, 1, maxNumber}, beyond...) {
				p := api.Pattern{Kind: kind, N: n, Sub: slices.Repeat([]api.Pattern{num}, count)}
				well := counts[kind] != nil && counts[kind](count) && (n == 0 || kind == api.PatNumber && n > 0 && n <= maxNumber)
				f.Paths[0].Pattern = p
				unformed(t, fmt.Sprintf("%+v", p), f, well)
				// And as a part of others.
				f.Paths[0].Pattern = api.Pattern{Kind: api.PatAlt, Sub: []api.Pattern{num, {Kind: api.PatPlus, Sub: []api.Pattern{p}}}}
				unformed(t, fmt.Sprintf("within others %+v", p), f, well)
			}
		}
	}
}

// needs is what a kind of condition has beside its kind, and from how many parts to how many.
type needs struct {
	name, compare, n bool
	least, most      int
}

var ofKinds = map[int]needs{
	api.CondAlways: {}, api.CondPrefix: {name: true}, api.CondPath: {name: true}, api.CondMark: {n: true}, api.CondCompare: {compare: true, n: true},
	api.CondAnd: {least: 2, most: 9}, api.CondOr: {least: 2, most: 9}, api.CondNot: {least: 1, most: 1},
}

// isWell says whether a condition, whose parts are well formed, is so.
func isWell(c api.Cond) bool {
	need, known := ofKinds[c.Kind]
	between := func(n int, needed bool, least, most int) bool {
		return !needed && n == 0 || needed && least <= n && n <= most
	}
	return known && (c.Name == "a" || c.Name == "s") == need.name && (c.Name == "") != need.name &&
		between(c.Field, need.compare, 1, 4) && between(c.Op, need.compare, 1, 3) && between(c.N, need.n, 0, maxNumber) &&
		need.least <= len(c.Sub) && len(c.Sub) <= need.most
}

func TestH4Conditions(t *testing.T) {
	f := ofAll()
	atom := api.Cond{Kind: api.CondMark, N: 1}
	d := newDraw(5)
	wells := 0
	for range 20000 {
		c := d.oddCond(atom)
		if isWell(c) {
			wells++
		}
		f.Policies[0].Terms[1].If = c
		unformed(t, show(c), f, isWell(c))
		f.Policies[0].Terms[1].If = api.Cond{Kind: api.CondOr, Sub: []api.Cond{atom, {Kind: api.CondNot, Sub: []api.Cond{c}}}}
		unformed(t, "within others "+show(c), f, isWell(c) && c.Kind != api.CondAlways)
		if t.Failed() {
			return
		}
	}
	if wells < 1000 {
		t.Errorf("only %d are well formed", wells)
	}
}

// oddCond draws a condition that is mostly wrong in one thing or none.
func (d draw) oddCond(part api.Cond) api.Cond {
	c := api.Cond{Kind: d.Intn(10) - 1}
	need := ofKinds[c.Kind]
	few := []int{0, 1, 2, 3, 4, 5, maxNumber, maxNumber + 1, -1}
	wrong := d.Intn(12)
	if need.name != (wrong == 0) {
		c.Name = d.of("a", "s", "s", "B")
	}
	if need.compare != (wrong == 1) {
		c.Field = few[d.Intn(9)]
	}
	if need.compare != (wrong == 2) {
		c.Op = few[d.Intn(9)]
	}
	if need.n != (wrong == 3) {
		c.N = few[d.Intn(9)]
	}
	if (need.most > 0) != (wrong == 4) {
		c.Sub = slices.Repeat([]api.Cond{part}, d.Intn(4))
	}
	return c
}

func TestH4Actions(t *testing.T) {
	for _, kind := range append([]int{0, 1, 2, 3, 4, 5, 6, 7, 8, 9, 99}, beyond...) {
		for _, n := range append([]int{0, 1, 8, 9, 65536, maxNumber}, beyond...) {
			for _, name := range []string{"", "q", "B"} {
				f := ofAll()
				f.Policies[0].Terms[1].Then = []api.Action{{Kind: api.ActReject}, {Kind: kind, N: n, Name: name}}
				well := name == ""
				switch kind {
				case api.ActAccept, api.ActReject:
					well = well && n == 0
				case api.ActPref, api.ActMed, api.ActAdd, api.ActDrop:
					well = well && n >= 0 && n <= maxNumber
				case api.ActPrepend:
					well = well && n >= 1 && n <= 8
				case api.ActCall:
					well = name == "q" && n == 0
				default:
					well = false
				}
				unformed(t, fmt.Sprintf("%d %d %q", kind, n, name), f, well)
			}
		}
	}
	f := ofAll()
	f.Policies[0].Terms[3].Then = nil
	unformed(t, "no action", f, false)
	f = ofAll()
	f.Policies[1].Terms = []api.Term{{}}
	unformed(t, "a term of nothing", f, false)
	unformed(t, "all kinds", ofAll(), true)
	unformed(t, "nothing", api.PolicyFile{}, true)
	unformed(t, "empty lists", api.PolicyFile{Sets: []api.PolicySet{}, Paths: []api.PolicyPath{{Name: "a", Pattern: api.Pattern{Kind: api.PatSeq, Sub: []api.Pattern{}}}}, Policies: []api.Policy{{Name: "p", Terms: []api.Term{{If: api.Cond{Sub: []api.Cond{}}, Then: []api.Action{{Kind: api.ActAccept}}}}}}}, true)
}

// TestH4WithoutBounds: what a text could not have stands in a file, as deep as it may be.
func TestH4WithoutBounds(t *testing.T) {
	const deep = 60000
	p := api.Pattern{Kind: api.PatNumber, N: 1}
	c := api.Cond{Kind: api.CondMark, N: 1}
	for range deep {
		p = api.Pattern{Kind: api.PatSeq, Sub: []api.Pattern{p, {Kind: api.PatAny}}}
		c = api.Cond{Kind: api.CondNot, Sub: []api.Cond{c}}
	}
	f := api.PolicyFile{Paths: []api.PolicyPath{{Name: "p", Pattern: p}}, Policies: []api.Policy{{Name: "p", Terms: []api.Term{{If: c, Then: []api.Action{{Kind: api.ActAccept}}}}}}}
	want := "paths p {\n" + strings.Repeat("( ", deep-1) + "1 ." + strings.Repeat(" ) .", deep-1) + "\n}\npolicy p {\nif " + strings.Repeat("not ", deep) + "mark 0:1 then accept ;\n}\n"
	if printed(t, f) != want {
		t.Error("a file that is nested deep is printed otherwise")
	}
	if e, name := policy.Check(f); e != api.OK || name != "" {
		t.Errorf("Check: %v %q", e, name)
	}
}
