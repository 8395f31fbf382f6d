package policy_test

import (
	"regexp"
	"slices"
	"strings"
	"testing"

	"wayfinder/api"
	"wayfinder/pfx"
)

// grammar is the one of the document (H1), word for word, a rule a line.
const grammar = `
file = { def }
def = "prefixes" NAME "{" { PREFIX [ "to" NUM ] ";" } "}" | "paths" NAME "{" alt "}" | "policy" NAME "{" { term } "}"
term = [ "if" or ] "then" action { "," action } ";"
or = and { "or" and }
and = not { "and" not }
not = "not" not | atom
atom = "(" or ")" | "prefix" NAME | "path" NAME | "mark" MARK | ( "pref" | "med" | "length" | "origin" ) ( "=" | "<" | ">" ) NUM
action = "accept" | "reject" | "pref" NUM | "med" NUM | "add" MARK | "drop" MARK | "prepend" NUM | "call" NAME
alt = seq { "|" seq }
seq = { unit { "*" | "+" | "?" } }
unit = NUM | "." | "(" alt ")"
`

// part is a piece of a rule: a choice ("|"), a row (" "), what may be missing ("["), what may be repeated ("{"), or a single word (quoted, of a form, or of a rule).
type part struct {
	kind string
	word string
	subs []*part
}

// rules reads the grammar.
func rules() map[string]*part {
	out := map[string]*part{}
	for _, line := range strings.Split(strings.TrimSpace(grammar), "\n") {
		words := strings.Fields(line)
		rest := words[2:]
		out[words[0]] = choice(&rest)
	}
	return out
}

func choice(rest *[]string) *part {
	p := &part{kind: "|", subs: []*part{row(rest)}}
	for len(*rest) > 0 && (*rest)[0] == "|" {
		*rest = (*rest)[1:]
		p.subs = append(p.subs, row(rest))
	}
	return p
}

func row(rest *[]string) *part {
	p := &part{kind: " "}
	for len(*rest) > 0 && !strings.Contains("|]})", (*rest)[0]) {
		word := (*rest)[0]
		*rest = (*rest)[1:]
		if !strings.Contains("[{(", word) {
			p.subs = append(p.subs, &part{kind: "word", word: word})
			continue
		}
		p.subs = append(p.subs, &part{kind: word, subs: []*part{choice(rest)}})
		*rest = (*rest)[1:]
	}
	return p
}

// judge holds a text to the grammar.
type judge struct {
	rules  map[string]*part
	tokens []piece
	open   int
	behind string     // the word ahead of this token
	prefix api.Prefix // the last one
	code   api.Errno  // what is wrong
	at     int
}

type piece struct {
	text string
	at   int
}

// The forms of tokens; a piece of a text is a token, blanks, or a comment.
var (
	aPiece = regexp.MustCompile(`^(?:[ \t\n]+|#[^\n]*|([a-z0-9.:/-]+|[{}();,|*+?=<>]))`)
	isWord = regexp.MustCompile(`^[a-z0-9.:/-]`)
	isName = regexp.MustCompile(`^[a-z][a-z0-9-]{0,15}$`)
	isNum  = regexp.MustCompile(`^(0|[1-9][0-9]*)$`)
)

// cut cuts a text into tokens; what begins none is a token that nothing asks for, and so is the end.
func cut(text string) []piece {
	var out []piece
	for i := 0; i < len(text); {
		m := aPiece.FindStringSubmatchIndex(text[i:])
		if m == nil {
			return append(out, piece{"@", i})
		}
		if m[2] >= 0 {
			out = append(out, piece{text[i : i+m[1]], i})
		}
		i += m[1]
	}
	return append(out, piece{"", len(text)})
}

// verdict says what Parse must answer for a text.
func verdict(rules map[string]*part, text string) (api.Errno, int) {
	if len(text) > 16384 {
		return api.ErrLong, 0
	}
	j := &judge{rules: rules, tokens: cut(text)}
	if j.walk(rules["file"]) && j.tokens[0].text != "" {
		j.wrong(api.ErrText)
	}
	return j.code, j.at
}

func (j *judge) wrong(code api.Errno) bool {
	j.code, j.at = code, j.tokens[0].at
	return false
}

// begins says whether a part may begin with the token that comes.
func (j *judge) begins(p *part) bool {
	token := j.tokens[0].text
	switch {
	case p.kind == " ":
		return len(p.subs) > 0 && j.begins(p.subs[0]) || len(p.subs) > 1 && slices.Contains([]string{"[", "{"}, p.subs[0].kind) && j.begins(p.subs[1])
	case p.kind != "word":
		return slices.ContainsFunc(p.subs, j.begins)
	case p.word[0] == '"':
		return p.word == `"`+token+`"`
	case j.rules[p.word] != nil:
		return j.begins(j.rules[p.word])
	}
	return isWord.MatchString(token)
}

func (j *judge) walk(p *part) bool {
	switch p.kind {
	case "word":
		return j.word(p.word)
	case " ":
		// What is opened in a row is closed where the row ends.
		open := j.open
		for _, sub := range p.subs {
			if !j.walk(sub) {
				return false
			}
		}
		j.open = open
		return true
	case "{":
		for j.begins(p.subs[0]) {
			if !j.walk(p.subs[0]) {
				return false
			}
		}
		return true
	case "[":
		return !j.begins(p.subs[0]) || j.walk(p.subs[0])
	}
	return j.choose(p.subs)
}

func (j *judge) choose(subs []*part) bool {
	// A word of its own counts ahead of a form: "." is no NUM.
	for i := len(subs) - 1; i >= 0; i-- {
		if j.begins(subs[i]) {
			return j.walk(subs[i])
		}
	}
	if len(subs) == 1 {
		return j.walk(subs[0])
	}
	return j.wrong(api.ErrText)
}

func (j *judge) word(word string) bool {
	token := j.tokens[0].text
	if rule := j.rules[word]; rule != nil {
		return j.walk(rule)
	}
	code := api.OK
	switch word {
	case "NAME":
		code = ifNot(isName.MatchString(token), api.ErrText)
	case "NUM":
		code = j.num(token)
	case "MARK":
		code = markCode(token)
	case "PREFIX":
		j.prefix, code = pfx.Parse(token)
	default:
		code = ifNot(word == `"`+token+`"`, api.ErrText)
		if code == api.OK && (token == "(" || token == "not") {
			code = ifNot(j.open < 32, api.ErrFull)
			j.open++
		}
	}
	if code != api.OK {
		return j.wrong(code)
	}
	j.behind, j.tokens = token, j.tokens[1:]
	return true
}

func ifNot(ok bool, code api.Errno) api.Errno {
	if ok {
		return api.OK
	}
	return code
}

// upTo says whether digits stand for less than others, or as much.
func upTo(digits, most string) bool {
	return len(digits) < len(most) || len(digits) == len(most) && digits <= most
}

func (j *judge) num(token string) api.Errno {
	switch {
	case !isNum.MatchString(token):
		return api.ErrText
	case j.behind == "to":
		_, length, _ := strings.Cut(pfx.Print(j.prefix), "/")
		return ifNot(upTo(length, token) && upTo(token, "32"), api.ErrRange)
	case j.behind == "prepend":
		return ifNot(len(token) == 1 && token >= "1" && token <= "8", api.ErrRange)
	}
	return ifNot(upTo(token, "4294967295"), api.ErrRange)
}

func markCode(token string) api.Errno {
	halves := strings.Split(token, ":")
	if len(halves) != 2 || !isNum.MatchString(halves[0]) || !isNum.MatchString(halves[1]) {
		return api.ErrText
	}
	return ifNot(upTo(halves[0], "65535") && upTo(halves[1], "65535"), api.ErrRange)
}

// odd are tokens that are often wrong where they are put.
var odd = []string{
	"{", "}", "(", ")", ";", ",", "|", "*", "+", "?", "=", "<", ">", "", "@", "A", "\r", "\x00", "\xc3\xa9", "#", "# x\n", " ",
	"prefixes", "paths", "policy", "if", "then", "or", "and", "not", "prefix", "path", "mark", "pref", "med", "length", "origin", "accept", "reject", "add", "drop", "prepend", "call", "to",
	"a", "9a", "-a", "a-", "a.b", "a:b", "a/b", ".", "..", ":", "/", "-", "abcdefghijklmnop", "abcdefghijklmnopq",
	"0", "00", "01", "1", "8", "9", "31", "32", "33", "4294967295", "4294967296", "99999999999999999999999999", "18446744073709551617",
	"0:0", "65535:65535", "65536:0", "0:65536", "01:1", "1:01", ":1", "1:", "1:1:1", "99999999999999999999:1", "99999:01", "1.1:1",
	"10.0.0.0/8", "10.0.0.1/8", "10.0.0.0/4", "0.0.0.0/0", "0.0.0.1/31", "10.0.0.256/8", "10.0.0.0/33", "10.0.0.0", "10.0.0.0/08", "1.2.3.4/32",
}

func TestH2AsTheGrammarSays(t *testing.T) {
	d := newDraw(1)
	all := rules()
	codes := map[api.Errno]int{}
	for range 12000 {
		tokens := d.loose(d.file())
		for range d.Intn(3) {
			i := d.Intn(len(tokens) + 1)
			switch d.Intn(3) {
			case 0:
				tokens = tokens[:i]
			case 1:
				tokens = slices.Insert(tokens, i, d.of(odd...))
			case 2:
				tokens = slices.Replace(tokens, i, min(i+1, len(tokens)), d.of(odd...))
			}
		}
		text := d.spread(tokens)
		for range d.Intn(2) * d.Intn(3) {
			i := d.Intn(len(text) + 1)
			text = text[:i] + string(rune(d.Intn(128))) + text[i:]
		}
		wantCode, wantAt := verdict(all, text)
		code, at := refused(text)
		if code != wantCode || at != wantAt {
			t.Fatalf("Parse of %q: %v at %d, must be %v at %d", text, code, at, wantCode, wantAt)
		}
		codes[code]++
	}
	for _, code := range []api.Errno{api.OK, api.ErrText, api.ErrRange, api.ErrBits} {
		if codes[code] < 20 {
			t.Errorf("only %d texts were %v", codes[code], code)
		}
	}
}

func TestH2NestAsTheGrammarSays(t *testing.T) {
	d := newDraw(2)
	all := rules()
	codes := map[api.Errno]int{}
	for range 3000 {
		text := "policy p { if "
		for range 25 + d.Intn(15) {
			text += d.of("( ", "not ", "not ", "( ", "( med = 1 and ", "not not med = 1 or ", "not ( med = 1 ) and ( ")
		}
		text += "pref < 7 "
		text += strings.Repeat(") ", d.Intn(40)) + "then accept; }"
		if d.Intn(2) == 0 {
			text = "paths p { "
			for range 25 + d.Intn(15) {
				text += d.of("( ", "( ", "( ", "1 ( ", "( ) * (", "( 1 | ( 2 ) ) | ( ")
			}
			text += strings.Repeat(") ", d.Intn(40)) + "}"
		}
		wantCode, wantAt := verdict(all, text)
		code, at := refused(text)
		if code != wantCode || at != wantAt {
			t.Fatalf("Parse of %q: %v at %d, must be %v at %d", text, code, at, wantCode, wantAt)
		}
		codes[code]++
	}
	for _, code := range []api.Errno{api.OK, api.ErrText, api.ErrFull} {
		if codes[code] < 20 {
			t.Errorf("only %d texts were %v", codes[code], code)
		}
	}
}
