package policy_test

import (
	"fmt"
	"math"
	"math/rand"
	"slices"
	"strconv"
	"strings"
	"testing"

	"wayfinder/api"
	"wayfinder/pfx"
	"wayfinder/policy"
)

const maxNumber = 4294967295

// beyond are numbers that no field may have.
var beyond = []int{-1, math.MinInt, math.MaxInt, maxNumber + 1, -maxNumber}

func at(a uint32, n int) api.Prefix { return api.Prefix{Addr: a, Len: n} }

var ten, eleven = at(0x0a000000, 8), at(0x0b000000, 8)

// show tells all of x; lists that are nil or empty look the same.
func show(x any) string { return fmt.Sprintf("%+v", x) }

func same(t *testing.T, what string, got, want any) {
	t.Helper()
	if show(got) != show(want) {
		t.Errorf("%s: it is\n%s\nand must be\n%s", what, show(got), show(want))
	}
}

// read parses a text with which nothing is wrong.
func read(t *testing.T, text string) api.PolicyFile {
	t.Helper()
	f, err := policy.Parse(text)
	if err != nil {
		t.Fatalf("Parse of %.300q: %v", text, err)
	}
	return f
}

// refused says what is wrong with a text, and where; -1 if the error is not as it must be.
func refused(text string) (api.Errno, int) {
	f, err := policy.Parse(text)
	if err == nil {
		return api.OK, 0
	}
	x, ok := err.(*policy.Fault)
	if !ok || x == nil || show(f) != show(api.PolicyFile{}) {
		return -1, -1
	}
	return x.Code(), x.At()
}

// pattern, cond and acts give what a short text is.
func pattern(t *testing.T, text string) api.Pattern {
	t.Helper()
	return read(t, "paths p { "+text+" }").Paths[0].Pattern
}

func cond(t *testing.T, text string) api.Cond {
	t.Helper()
	return read(t, "policy p { if "+text+" then accept; }").Policies[0].Terms[0].If
}

// draw makes files. Those of its names that are used are mostly defined.
type draw struct{ *rand.Rand }

func newDraw(seed int64) draw { return draw{rand.New(rand.NewSource(seed))} }

func (d draw) of(words ...string) string { return words[d.Intn(len(words))] }

func (d draw) name() string {
	return d.of("a", "b", "c", "d", "then", "policy", "a-1", "z", "x9-", "abcdefghijklmnop")
}

func (d draw) number() int {
	return []int{0, 1, 2, 3, d.Intn(100), 65535, 65536, maxNumber, d.Intn(maxNumber + 1)}[d.Intn(9)]
}

func (d draw) prefix() api.Prefix {
	n := d.Intn(33)
	return at(uint32(uint64(d.Uint32()&0xc0000003|0x0a000000)>>(32-n)<<(32-n)), n)
}

func (d draw) file() api.PolicyFile {
	var f api.PolicyFile
	for range d.Intn(3) {
		set := api.PolicySet{Name: d.name()}
		for range d.Intn(4) {
			p := d.prefix()
			set.Items = append(set.Items, api.PolicyItem{Prefix: p, To: p.Len + d.Intn(33-p.Len)})
		}
		f.Sets = append(f.Sets, set)
	}
	for range d.Intn(3) {
		f.Paths = append(f.Paths, api.PolicyPath{Name: d.name(), Pattern: d.pattern(d.Intn(5))})
	}
	for range d.Intn(3) {
		p := api.Policy{Name: d.name()}
		for range d.Intn(4) {
			p.Terms = append(p.Terms, d.term())
		}
		f.Policies = append(f.Policies, p)
	}
	return f
}

func (d draw) pattern(deep int) api.Pattern {
	if deep == 0 {
		return []api.Pattern{{Kind: api.PatNumber, N: d.number()}, {Kind: api.PatAny}, {Kind: api.PatSeq}}[d.Intn(3)]
	}
	p := api.Pattern{Kind: api.PatSeq + d.Intn(5)}
	count := 1
	if p.Kind == api.PatSeq || p.Kind == api.PatAlt {
		count = 2 + d.Intn(2)
	}
	for range count {
		p.Sub = append(p.Sub, d.pattern(d.Intn(deep)))
	}
	return p
}

func (d draw) term() api.Term {
	var term api.Term
	if d.Intn(4) > 0 {
		term.If = d.cond(d.Intn(5))
	}
	for range 1 + d.Intn(3) {
		term.Then = append(term.Then, d.action())
	}
	return term
}

func (d draw) cond(deep int) api.Cond {
	if deep == 0 {
		return []api.Cond{
			{Kind: api.CondPrefix, Name: d.name()}, {Kind: api.CondPath, Name: d.name()}, {Kind: api.CondMark, N: d.number()},
			{Kind: api.CondCompare, Field: 1 + d.Intn(4), Op: 1 + d.Intn(3), N: d.number()},
		}[d.Intn(4)]
	}
	c := api.Cond{Kind: api.CondAnd + d.Intn(3)}
	count := 1
	if c.Kind != api.CondNot {
		count = 2 + d.Intn(2)
	}
	for range count {
		c.Sub = append(c.Sub, d.cond(d.Intn(deep)))
	}
	return c
}

func (d draw) action() api.Action {
	a := api.Action{Kind: 1 + d.Intn(8)}
	switch a.Kind {
	case api.ActPref, api.ActMed, api.ActAdd, api.ActDrop:
		a.N = d.number()
	case api.ActPrepend:
		a.N = 1 + d.Intn(8)
	case api.ActCall:
		a.Name = d.name()
	}
	return a
}

// loose tells the tokens of a file as nobody would print them: the kinds in any order, with brackets that need not be.
func (d draw) loose(f api.PolicyFile) []string {
	var out []string
	sets, paths, policies := f.Sets, f.Paths, f.Policies
	for len(sets)+len(paths)+len(policies) > 0 {
		switch kind := d.Intn(3); {
		case kind == 0 && len(sets) > 0:
			out = append(out, d.looseSet(sets[0])...)
			sets = sets[1:]
		case kind == 1 && len(paths) > 0:
			out = slices.Concat(out, []string{"paths", paths[0].Name, "{"}, d.loosePattern(paths[0].Pattern, 0), []string{"}"})
			paths = paths[1:]
		case kind == 2 && len(policies) > 0:
			out = append(out, "policy", policies[0].Name, "{")
			for _, term := range policies[0].Terms {
				out = append(out, d.looseTerm(term)...)
			}
			out = append(out, "}")
			policies = policies[1:]
		}
	}
	return out
}

func (d draw) looseSet(set api.PolicySet) []string {
	out := []string{"prefixes", set.Name, "{"}
	for _, item := range set.Items {
		out = append(out, pfx.Print(item.Prefix))
		if item.To != item.Prefix.Len || d.Intn(2) == 0 {
			out = append(out, "to", strconv.Itoa(item.To))
		}
		out = append(out, ";")
	}
	return append(out, "}")
}

// enclosed puts brackets where the level of what stands there is below what is needed, and sometimes elsewhere.
func (d draw) enclosed(level, need int, tokens []string) []string {
	if level < need || d.Intn(8) == 0 {
		return slices.Concat([]string{"("}, tokens, []string{")"})
	}
	return tokens
}

// loosePattern: an alt has level 0, a seq 1, all else 2.
func (d draw) loosePattern(p api.Pattern, need int) []string {
	var out []string
	switch p.Kind {
	case api.PatNumber:
		return d.enclosed(2, need, []string{strconv.Itoa(p.N)})
	case api.PatAny:
		return d.enclosed(2, need, []string{"."})
	case api.PatSeq:
		for _, x := range p.Sub {
			out = append(out, d.loosePattern(x, 2)...)
		}
		return d.enclosed(1, need, out)
	case api.PatAlt:
		for i, x := range p.Sub {
			if i > 0 {
				out = append(out, "|")
			}
			out = append(out, d.loosePattern(x, 1)...)
		}
		return d.enclosed(0, need, out)
	}
	sign := map[int]string{api.PatStar: "*", api.PatPlus: "+", api.PatMaybe: "?"}[p.Kind]
	return d.enclosed(2, need, append(d.loosePattern(p.Sub[0], 2), sign))
}

func (d draw) looseTerm(term api.Term) []string {
	var out []string
	if term.If.Kind != api.CondAlways {
		out = append([]string{"if"}, d.looseCond(term.If, 0)...)
	}
	out = append(out, "then")
	for i, a := range term.Then {
		if i > 0 {
			out = append(out, ",")
		}
		out = append(out, strings.Fields(actText(a))...)
	}
	return append(out, ";")
}

// looseCond: an or has level 0, an and 1, all else 2.
func (d draw) looseCond(c api.Cond, need int) []string {
	var out []string
	switch c.Kind {
	case api.CondNot:
		return d.enclosed(2, need, append([]string{"not"}, d.looseCond(c.Sub[0], 2)...))
	case api.CondAnd, api.CondOr:
		level, word := 1, "and"
		if c.Kind == api.CondOr {
			level, word = 0, "or"
		}
		for i, x := range c.Sub {
			if i > 0 {
				out = append(out, word)
			}
			out = append(out, d.looseCond(x, level+1)...)
		}
		return d.enclosed(level, need, out)
	}
	return d.enclosed(2, need, strings.Fields(atomText(c)))
}

func markText(n int) string { return fmt.Sprintf("%d:%d", n>>16, n&65535) }

func atomText(c api.Cond) string {
	switch c.Kind {
	case api.CondPrefix:
		return "prefix " + c.Name
	case api.CondPath:
		return "path " + c.Name
	case api.CondMark:
		return "mark " + markText(c.N)
	}
	field := map[int]string{api.FieldPref: "pref", api.FieldMed: "med", api.FieldLength: "length", api.FieldOrigin: "origin"}[c.Field]
	op := map[int]string{api.OpEqual: "=", api.OpLess: "<", api.OpGreater: ">"}[c.Op]
	return fmt.Sprint(field, " ", op, " ", c.N)
}

func actText(a api.Action) string {
	switch a.Kind {
	case api.ActAccept:
		return "accept"
	case api.ActReject:
		return "reject"
	case api.ActPref:
		return fmt.Sprint("pref ", a.N)
	case api.ActMed:
		return fmt.Sprint("med ", a.N)
	case api.ActAdd:
		return "add " + markText(a.N)
	case api.ActDrop:
		return "drop " + markText(a.N)
	case api.ActPrepend:
		return fmt.Sprint("prepend ", a.N)
	}
	return "call " + a.Name
}

func isSign(token string) bool { return strings.Contains("{}();,|*+?=<>", token) }

// spread lays tokens out with blanks and comments between them, where there may be none too.
func (d draw) spread(tokens []string) string {
	var out strings.Builder
	for i, token := range tokens {
		if i > 0 && !isSign(token) && !isSign(tokens[i-1]) || d.Intn(3) == 0 {
			out.WriteString(d.of(" ", "\t", "\n", "  ", " \n\t", "# it's @ {\n", "#\n#\xff\n ", "\n\n#}\n"))
		}
		out.WriteString(token)
	}
	return out.String() + d.of("", " ", "\n", "# the end", "#\n")
}
