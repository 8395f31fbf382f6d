package policy_test

import (
	"errors"
	"fmt"
	"strings"
	"testing"

	"wayfinder/api"
	"wayfinder/policy"
)

// refuses holds Parse to what is wrong with texts, and where.
func refuses(t *testing.T, text string, code api.Errno, at int) {
	t.Helper()
	if c, a := refused(text); c != code || a != at {
		t.Errorf("Parse of %.80q: %v at %d, must be %v at %d", text, c, a, code, at)
	}
}

// takes holds Parse to a text with which nothing is wrong.
func takes(t *testing.T, text string) {
	t.Helper()
	if _, err := policy.Parse(text); err != nil {
		t.Errorf("Parse of %.80q: %v", text, err)
	}
}

func TestH1Blanks(t *testing.T) {
	want := show(read(t, "policy p { if med > 5 then pref 200 , accept ; }"))
	for _, text := range []string{
		"policy p{if med>5 then pref 200,accept;}",
		"\n\t policy\np\t{\n\nif\tmed > 5 then\npref 200\n,\naccept\t;\n} \n\t",
		"# policy q { then accept; }\npolicy p {#{\nif med#\n> # > 6\n5 then pref 200, accept; }# the end",
		"#\n#\n#@\x00\xff\r\npolicy p { if med > 5 then pref 200, accept; }\n#",
	} {
		if got := show(read(t, text)); got != want {
			t.Errorf("Parse of %q: %s", text, got)
		}
	}
	for _, text := range []string{"", " ", "\n\n\t", "#", "# nothing", "#\n", " # \n\t# "} {
		same(t, "nothing", read(t, text), api.PolicyFile{})
	}
	// No other byte parts tokens.
	for b := range 256 {
		text := "policy" + string([]byte{byte(b)}) + "p { }"
		switch {
		case b == ' ' || b == '\t' || b == '\n':
			takes(t, text)
		case b == '#':
			refuses(t, text, api.ErrText, len(text))
		case strings.ContainsRune("abcdefghijklmnopqrstuvwxyz0123456789-.:/", rune(b)):
			refuses(t, text, api.ErrText, 0)
		default:
			refuses(t, text, api.ErrText, 6)
		}
	}
}

func TestH1BytesThatBeginNoToken(t *testing.T) {
	for b := range 256 {
		text := string([]byte{byte(b)})
		want := !strings.Contains(" \t\n#", text)
		if code, at := refused(text); (code == api.ErrText) != want || at != 0 {
			t.Errorf("Parse of %q: %v at %d", text, code, at)
		}
		// Where a sign is wanted, no other one stands.
		text = "policy p { then accept " + text + " }"
		switch b {
		case ';':
			takes(t, text)
		case '#':
			refuses(t, text, api.ErrText, 26)
		case ' ', '\t', '\n', ',':
			refuses(t, text, api.ErrText, 25)
		default:
			refuses(t, text, api.ErrText, 23)
		}
	}
}

func TestH1Names(t *testing.T) {
	for _, name := range []string{"a", "z", "a0", "a-", "a--9", "policy", "then", "to", "abcdefghijklmnop", "z234567890123456"} {
		takes(t, "policy "+name+" { then call "+name+"; }")
		takes(t, "prefixes "+name+" { }")
		takes(t, "policy p { if prefix "+name+" then accept; }")
		same(t, "name", read(t, "paths "+name+" { }").Paths[0].Name, name)
	}
	for _, name := range []string{"0", "9a", "-", "-a", ".", "a.b", "a:b", "a/b", "a.", "abcdefghijklmnopq", "{", ";", "}"} {
		refuses(t, "policy "+name+" { }", api.ErrText, 7)
		refuses(t, "prefixes "+name+" { }", api.ErrText, 9)
		refuses(t, "paths "+name+" { }", api.ErrText, 6)
		refuses(t, "policy p { if prefix "+name+" then accept; }", api.ErrText, 21)
		refuses(t, "policy p { if path "+name+" then accept; }", api.ErrText, 19)
		refuses(t, "policy p { then call "+name+"; }", api.ErrText, 21)
	}
	refuses(t, "policy A { }", api.ErrText, 7)
	refuses(t, "policy aB { }", api.ErrText, 8)
	refuses(t, "policy a_b { }", api.ErrText, 8)
}

// numbers tries numbers where one stands: those from least to most are taken.
func numbers(t *testing.T, ahead, behind string, least, most int) {
	t.Helper()
	for _, n := range []int{0, 1, 7, 8, 9, 10, 31, 32, 33, least, most, 65535, 65536, 4294967295, 4294967296, 9223372036854775807} {
		if n >= least && n <= most {
			takes(t, fmt.Sprint(ahead, n, behind))
		} else {
			refuses(t, fmt.Sprint(ahead, n, behind), api.ErrRange, len(ahead))
		}
	}
	for _, digits := range []string{"18446744073709551616", "18446744073709551617", "9223372036854775808", "1" + strings.Repeat("0", 400)} {
		refuses(t, ahead+digits+behind, api.ErrRange, len(ahead))
	}
	for _, word := range []string{"00", "01", "000", "-1", "1a", "a", "1.", ".1", "1:1", "1/1", "0x1", "007", "00" + strings.Repeat("9", 50), "99999999999999999999a"} {
		refuses(t, ahead+word+behind, api.ErrText, len(ahead))
	}
	for _, sign := range []string{"{", ";", "=", "@"} {
		refuses(t, ahead+sign+behind, api.ErrText, len(ahead))
	}
	refuses(t, ahead, api.ErrText, len(ahead))
	refuses(t, ahead+"# 1", api.ErrText, len(ahead)+3)
}

func TestH1Numbers(t *testing.T) {
	numbers(t, "policy p { if med = ", " then accept; }", 0, 4294967295)
	numbers(t, "policy p { if pref<", " then accept; }", 0, 4294967295)
	numbers(t, "policy p { if length > ", " then accept; }", 0, 4294967295)
	numbers(t, "policy p { if not origin = ", "\tthen accept; }", 0, 4294967295)
	numbers(t, "policy p { then pref ", ";}", 0, 4294967295)
	numbers(t, "policy p { then med ", ",accept; }", 0, 4294967295)
	numbers(t, "policy p { then prepend ", " ; }", 1, 8)
	numbers(t, "prefixes p { 0.0.0.0/0 to ", "; }", 0, 32)
	numbers(t, "prefixes p { 10.0.0.0/8 to ", "; }", 8, 32)
	numbers(t, "prefixes p { 1.2.3.4/32 to ", "; }", 32, 32)
	for _, n := range []string{"0", "1", "10", "4294967295"} {
		takes(t, "paths p { 1 "+n+" }")
	}
	for _, n := range []string{"4294967296", "18446744073709551617"} {
		refuses(t, "paths p { 1 "+n+" }", api.ErrRange, 12)
	}
	for _, n := range []string{"00", "01", "1a", "..", "1.", "a", "1:1", "-"} {
		refuses(t, "paths p { 1 "+n+" }", api.ErrText, 12)
	}
}

func TestH1Marks(t *testing.T) {
	for _, ahead := range []string{"policy p { if mark ", "policy p { then add ", "policy p { then drop "} {
		behind := ";}"
		if strings.Contains(ahead, "if") {
			behind = " then accept;}"
		}
		for _, mark := range []string{"0:0", "0:1", "1:0", "65535:65535", "10:20"} {
			takes(t, ahead+mark+behind)
		}
		for _, mark := range []string{"65536:0", "0:65536", "65536:65536", "4294967297:1", "1:99999999999999999999999", "18446744073709551616:0"} {
			refuses(t, ahead+mark+behind, api.ErrRange, len(ahead))
		}
		for _, mark := range []string{"1", ":", "1:", ":1", "1:1:1", "01:1", "1:01", "00:0", "99999:01", "01:99999", "a:1", "1:a", "1.1", "1:-1", "1:1.", "{"} {
			refuses(t, ahead+mark+behind, api.ErrText, len(ahead))
		}
		refuses(t, ahead+"1 : 1"+behind, api.ErrText, len(ahead))
		refuses(t, ahead+"1:1 :1"+behind, api.ErrText, len(ahead)+4)
	}
	same(t, "mark", cond(t, "mark 65535:2").N, 65535*65536+2)
	same(t, "mark", read(t, "policy p { then add 1:0, drop 0:65535; }").Policies[0].Terms[0].Then, []api.Action{{Kind: api.ActAdd, N: 65536}, {Kind: api.ActDrop, N: 65535}})
}

func TestH2Prefixes(t *testing.T) {
	for text, code := range map[string]api.Errno{
		"10.0.0.0/8": api.OK, "0.0.0.0/0": api.OK, "255.255.255.255/32": api.OK,
		"10.0.0.1/8": api.ErrBits, "10.0.0.0/4": api.ErrBits, "10.0.0.256/8": api.ErrRange, "10.0.0.0/33": api.ErrRange, "10.0.0.256/33": api.ErrRange,
		"10.0.0.01/8": api.ErrText, "10.0.0.0": api.ErrText, "10.0.0.0/": api.ErrText, "10.0.0.0/08": api.ErrText, "10.0.0.0/100": api.ErrText, "a": api.ErrText, "to": api.ErrText, ";": api.ErrText, "{": api.ErrText,
	} {
		ahead := "prefixes p { 1.0.0.0/8; "
		if code == api.OK {
			takes(t, ahead+text+";}")
		} else {
			refuses(t, ahead+text+";}", code, len(ahead))
		}
	}
}

func TestH2Places(t *testing.T) {
	for _, c := range []struct {
		text string
		code api.Errno
		at   int
	}{
		{"paths p { 1 ( }", api.ErrText, 14},
		{"policy p { then pref 4294967296; }", api.ErrRange, 21},
		{"x", api.ErrText, 0},
		{"  # c\n { }", api.ErrText, 7},
		{"policy p { } p", api.ErrText, 13},
		{"policy p { } }", api.ErrText, 13},
		{"policy", api.ErrText, 6},
		{"policy ", api.ErrText, 7},
		{"policy # x\n", api.ErrText, 11},
		{"policy p", api.ErrText, 8},
		{"policy p p", api.ErrText, 9},
		{"policy p {", api.ErrText, 10},
		{"policy p { then", api.ErrText, 15},
		{"policy p { then ; }", api.ErrText, 16},
		{"policy p { then accept, ; }", api.ErrText, 24},
		{"policy p { then accept reject; }", api.ErrText, 23},
		{"policy p { then accept; ", api.ErrText, 24},
		{"policy p { accept; }", api.ErrText, 11},
		{"policy p { if then accept; }", api.ErrText, 14},
		{"policy p { if med = 1 accept; }", api.ErrText, 22},
		{"policy p { if med = 1 and then accept; }", api.ErrText, 26},
		{"policy p { if med = 1 or; then accept; }", api.ErrText, 24},
		{"policy p { if not then accept; }", api.ErrText, 18},
		{"policy p { if med 1 then accept; }", api.ErrText, 18},
		{"policy p { if med > > 1 then accept; }", api.ErrText, 20},
		{"policy p { if ( med > 1 then accept; }", api.ErrText, 24},
		{"policy p { if med > 1 ) then accept; }", api.ErrText, 22},
		{"policy p { if ( ) then accept; }", api.ErrText, 16},
		{"policy p { if mark = 1 then accept; }", api.ErrText, 19},
		{"policy p { then med = 1; }", api.ErrText, 20},
		{"policy p { then length 1; }", api.ErrText, 16},
		{"policy p { then call; }", api.ErrText, 20},
		{"policy p { then accept;; }", api.ErrText, 23},
		{"policy p { if med > 1 then accept; if }", api.ErrText, 38},
		{"prefixes p { 10.0.0.0/8 }", api.ErrText, 24},
		{"prefixes p { 10.0.0.0/8 to }", api.ErrText, 27},
		{"prefixes p { 10.0.0.0/8 9; }", api.ErrText, 24},
		{"prefixes p { 10.0.0.0/8 to 9 to 9; }", api.ErrText, 29},
		{"prefixes p { ; }", api.ErrText, 13},
		{"prefixes p 10.0.0.0/8", api.ErrText, 11},
		{"paths p { 1 ) }", api.ErrText, 12},
		{"paths p { ( 1 }", api.ErrText, 14},
		{"paths p { ( 1", api.ErrText, 13},
		{"paths p { | * }", api.ErrText, 12},
		{"paths p { ( * ) }", api.ErrText, 12},
		{"paths p { 1 , 2 }", api.ErrText, 12},
		{"paths p { 1 } }", api.ErrText, 14},
		{"paths p { 1; }", api.ErrText, 11},
		// The first thing that is wrong counts, whatever is wrong behind it.
		{"policy p { then pref 4294967296@", api.ErrRange, 21},
		{"policy p { then prepend 0@", api.ErrRange, 24},
		{"policy p { then accept } @", api.ErrText, 23},
		{"policy 9p @", api.ErrText, 7},
		{"prefixes p { 10.0.0.1/8@", api.ErrBits, 13},
		{"prefixes p { 10.0.0.0/8 to 7@", api.ErrRange, 27},
		{"policy p { then add 65536:1@", api.ErrRange, 20},
		{"paths p { 4294967296@", api.ErrRange, 10},
		{"paths p { 1@4294967296", api.ErrText, 11},
		{"prefixes p { 10.0.0.1/8; } policy 9", api.ErrBits, 13},
	} {
		refuses(t, c.text, c.code, c.at)
	}
}

func TestH2Long(t *testing.T) {
	text := "policy p { then accept; } "
	full := text + strings.Repeat(" ", 16384-len(text))
	takes(t, full)
	refuses(t, full+" ", api.ErrLong, 0)
	refuses(t, "@"+full, api.ErrLong, 0)
	refuses(t, strings.Repeat("#", 16385), api.ErrLong, 0)
	refuses(t, strings.Repeat("x", 1<<20), api.ErrLong, 0)
	refuses(t, strings.Repeat("a", 16384), api.ErrText, 0)
	refuses(t, "policy p "+strings.Repeat(" ", 16384-9), api.ErrText, 16384)
}

func TestH2Nest(t *testing.T) {
	nest := func(open string, n int, inner, end string) string {
		return strings.Repeat(open, n) + inner + strings.Repeat(end, n)
	}
	takes(t, "paths p { "+nest("( ", 32, "1", " )")+" }")
	refuses(t, "paths p { "+nest("( ", 33, "1", " )")+" }", api.ErrFull, 10+2*32)
	takes(t, "policy p { if "+nest("( ", 32, "med = 1", " )")+" then accept; }")
	refuses(t, "policy p { if "+nest("( ", 33, "med = 1", " )")+" then accept; }", api.ErrFull, 14+2*32)
	takes(t, "policy p { if "+nest("not ", 32, "med = 1", "")+" then accept; }")
	refuses(t, "policy p { if "+nest("not ", 33, "med = 1", "")+" then accept; }", api.ErrFull, 14+4*32)
	takes(t, "policy p { if "+nest("not ( ", 16, "med = 1", " )")+" then accept; }")
	refuses(t, "policy p { if "+nest("not ( ", 16, "not med = 1", " )")+" then accept; }", api.ErrFull, 14+6*16)
	refuses(t, "policy p { if "+nest("not ( ", 16, "( med = 1 )", " )")+" then accept; }", api.ErrFull, 14+6*16)
	// What is closed does not count, nor what stands elsewhere, nor a sign behind a unit.
	takes(t, "paths p { "+strings.Repeat("( 1 ) ", 100)+" }")
	takes(t, "paths p { 1 "+strings.Repeat("* ", 1000)+" }")
	takes(t, "policy p { if "+strings.Repeat("not not med = 1 and ( pref = 1 ) or ", 100)+" length = 1 then accept; }")
	thirty := nest("not ", 30, "med = 1", "")
	takes(t, "policy p { if "+thirty+" and "+thirty+" or ( "+thirty+" ) then accept; if ( ( "+thirty+" ) ) then accept; } policy q { if "+thirty+" then accept; }")
	takes(t, "paths p { "+nest("( ", 32, "", " )")+" | "+nest("( ", 32, "", " )")+" } paths q { "+nest("( ", 32, "", " )")+" }")
	// A bracket that cannot stand there is no matter of how deep it is.
	refuses(t, "policy p { if "+strings.Repeat("( ", 32)+"med = 1 ( ", api.ErrText, 14+2*32+8)
	refuses(t, "policy p { if "+strings.Repeat("( ", 32)+"med not ", api.ErrText, 14+2*32+4)
}

func TestH2Fault(t *testing.T) {
	for text, code := range map[string]api.Errno{
		"@": api.ErrText, "policy p { then prepend 9; }": api.ErrRange, "prefixes p { 10.0.0.1/8; }": api.ErrBits,
		strings.Repeat(" ", 20000): api.ErrLong, "paths p { " + strings.Repeat("(", 40): api.ErrFull,
	} {
		_, err := policy.Parse(text)
		var x *policy.Fault
		if !errors.As(err, &x) || x.Code() != code || errors.Unwrap(err) != error(code) {
			t.Fatalf("Parse of %.40q: %v", text, err)
		}
		for e := api.OK; e <= api.ErrKind; e++ {
			if errors.Is(err, e) != (e == code) {
				t.Errorf("errors.Is of %v and %v: %v", err, e, errors.Is(err, e))
			}
		}
		if !strings.Contains(err.Error(), code.Error()) || !strings.Contains(err.Error(), fmt.Sprint(x.At())) {
			t.Errorf("%q tells not what is wrong, and where", err.Error())
		}
	}
	_, err := policy.Parse("")
	if err != nil {
		t.Errorf("without an error it is %v", err)
	}
}

func TestH3Files(t *testing.T) {
	f := read(t, `
		policy one { if prefix a then accept; then pref 1, med 2, add 0:3, drop 0:4, prepend 5, call two, reject; }
		paths b { 1 }
		prefixes a { 11.0.0.0/8; 10.0.0.0/8 to 24; 10.0.0.0/8 to 8; }
		policy two { }
		prefixes c { }
		paths a { }`)
	same(t, "file", f, api.PolicyFile{
		Sets:  []api.PolicySet{{Name: "a", Items: []api.PolicyItem{{Prefix: eleven, To: 8}, {Prefix: ten, To: 24}, {Prefix: ten, To: 8}}}, {Name: "c"}},
		Paths: []api.PolicyPath{{Name: "b", Pattern: api.Pattern{Kind: api.PatNumber, N: 1}}, {Name: "a", Pattern: api.Pattern{Kind: api.PatSeq}}},
		Policies: []api.Policy{{Name: "one", Terms: []api.Term{
			{If: api.Cond{Kind: api.CondPrefix, Name: "a"}, Then: []api.Action{{Kind: api.ActAccept}}},
			{Then: []api.Action{{Kind: api.ActPref, N: 1}, {Kind: api.ActMed, N: 2}, {Kind: api.ActAdd, N: 3}, {Kind: api.ActDrop, N: 4}, {Kind: api.ActPrepend, N: 5}, {Kind: api.ActCall, Name: "two"}, {Kind: api.ActReject}}},
		}}, {Name: "two"}},
	})
}

func TestH3Conditions(t *testing.T) {
	is := func(field, op, n int) api.Cond {
		return api.Cond{Kind: api.CondCompare, Field: field, Op: op, N: n}
	}
	and := func(sub ...api.Cond) api.Cond { return api.Cond{Kind: api.CondAnd, Sub: sub} }
	or := func(sub ...api.Cond) api.Cond { return api.Cond{Kind: api.CondOr, Sub: sub} }
	not := func(sub api.Cond) api.Cond { return api.Cond{Kind: api.CondNot, Sub: []api.Cond{sub}} }
	a, b, c := is(api.FieldPref, api.OpEqual, 1), is(api.FieldMed, api.OpLess, 2), is(api.FieldLength, api.OpGreater, 3)
	text := strings.NewReplacer("A", "pref = 1", "B", "med < 2", "C", "length > 3")
	for of, want := range map[string]api.Cond{
		"A": a, "B": b, "C": c, "origin = 0": is(api.FieldOrigin, api.OpEqual, 0),
		"path x": {Kind: api.CondPath, Name: "x"}, "prefix then": {Kind: api.CondPrefix, Name: "then"}, "mark 1:1": {Kind: api.CondMark, N: 65537},
		"A and B": and(a, b), "A or B": or(a, b), "A and B and C": and(a, b, c), "A or B or C": or(a, b, c),
		"A and B or C": or(and(a, b), c), "A or B and C": or(a, and(b, c)), "A and ( B or C )": and(a, or(b, c)),
		"A and ( B and C )": and(a, and(b, c)), "( A and B ) and C": and(and(a, b), c), "( A and B and C )": and(a, b, c),
		"A or ( B or C )": or(a, or(b, c)), "( A or B ) or C": or(or(a, b), c), "( ( A ) )": a, "( A ) and ( ( B ) )": and(a, b),
		"not A": not(a), "not not A": not(not(a)), "not A and B": and(not(a), b), "not ( A and B )": not(and(a, b)), "not ( not A or B ) or C": or(not(or(not(a), b)), c),
		"A and not B and not ( C )": and(a, not(b), not(c)), "( not A )": not(a),
	} {
		same(t, of, cond(t, text.Replace(of)), want)
	}
}

func TestH3Patterns(t *testing.T) {
	one, two, dot, none := api.Pattern{Kind: api.PatNumber, N: 1}, api.Pattern{Kind: api.PatNumber, N: 2}, api.Pattern{Kind: api.PatAny}, api.Pattern{Kind: api.PatSeq}
	of := func(kind int, sub ...api.Pattern) api.Pattern { return api.Pattern{Kind: kind, Sub: sub} }
	for text, want := range map[string]api.Pattern{
		"": none, "1": one, ".": dot, "( )": none, "( ( 1 ) )": one, "( ( ) )": none, "0": {Kind: api.PatNumber},
		"1 2": of(api.PatSeq, one, two), "1 . 2": of(api.PatSeq, one, dot, two), "( 1 2 )": of(api.PatSeq, one, two),
		"( 1 2 ) .": of(api.PatSeq, of(api.PatSeq, one, two), dot), "1 ( )": of(api.PatSeq, one, none), "( ) ( )": of(api.PatSeq, none, none),
		"1 | 2": of(api.PatAlt, one, two), "1 | 2 | .": of(api.PatAlt, one, two, dot), "|": of(api.PatAlt, none, none), "1 |": of(api.PatAlt, one, none), "| | 1": of(api.PatAlt, none, none, one),
		"( 1 | 2 ) | .": of(api.PatAlt, of(api.PatAlt, one, two), dot), "( 1 | 2 )": of(api.PatAlt, one, two), "1 2 | .": of(api.PatAlt, of(api.PatSeq, one, two), dot), "1 ( 2 | . )": of(api.PatSeq, one, of(api.PatAlt, two, dot)),
		"1 *": of(api.PatStar, one), "1+": of(api.PatPlus, one), "1 ?": of(api.PatMaybe, one), ".*": of(api.PatStar, dot), "1*+?": of(api.PatMaybe, of(api.PatPlus, of(api.PatStar, one))),
		"1 2 *": of(api.PatSeq, one, of(api.PatStar, two)), "( 1 2 ) *": of(api.PatStar, of(api.PatSeq, one, two)), "( ) +": of(api.PatPlus, none), "( 1 * ) ?": of(api.PatMaybe, of(api.PatStar, one)),
		". * | 1 +": of(api.PatAlt, of(api.PatStar, dot), of(api.PatPlus, one)),
	} {
		same(t, text, pattern(t, text), want)
	}
}

func TestH3WhateverIsWritten(t *testing.T) {
	d := newDraw(3)
	for range 3000 {
		f := d.file()
		text := d.spread(d.loose(f))
		if len(text) > 16384 {
			continue
		}
		if got := read(t, text); show(got) != show(f) {
			t.Fatalf("Parse of %q: it is\n%s\nand must be\n%s", text, show(got), show(f))
		}
	}
}
