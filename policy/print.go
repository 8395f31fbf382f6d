package policy

import (
	"strconv"

	"wayfinder/api"
	"wayfinder/pfx"
)

// Print gives a file's text.
func Print(f api.PolicyFile) (string, api.Errno) {
	if !wellFormed(f) {
		return "", api.ErrForm
	}
	var w writer
	for _, set := range f.Sets {
		w.set(set)
	}
	for _, path := range f.Paths {
		w.path(path)
	}
	for _, policy := range f.Policies {
		w.policy(policy)
	}
	return string(w.text), api.OK
}

// writer puts tokens behind each other, all of a well-formed file.
type writer struct {
	text []byte
}

// put puts a blank ahead of each token that does not begin a line.
func (w *writer) put(tokens ...string) {
	for _, t := range tokens {
		if size := len(w.text); size > 0 && w.text[size-1] != '\n' {
			w.text = append(w.text, ' ')
		}
		w.text = append(w.text, t...)
	}
}

func (w *writer) endLine() { w.text = append(w.text, '\n') }

// line puts tokens and ends their line.
func (w *writer) line(tokens ...string) {
	w.put(tokens...)
	w.endLine()
}

func (w *writer) set(set api.PolicySet) {
	w.line("prefixes", set.Name, "{")
	for _, item := range set.Items {
		w.put(pfx.Print(item.Prefix))
		if item.To != item.Prefix.Len {
			w.put("to", strconv.Itoa(item.To))
		}
		w.line(";")
	}
	w.line("}")
}

func (w *writer) path(path api.PolicyPath) {
	w.line("paths", path.Name, "{")
	w.pattern(path.Pattern)
	w.endLine()
	w.line("}")
}

func (w *writer) policy(policy api.Policy) {
	w.line("policy", policy.Name, "{")
	for _, term := range policy.Terms {
		w.term(term)
	}
	w.line("}")
}

func (w *writer) pattern(p api.Pattern) {
	switch p.Kind {
	case api.PatNumber:
		w.put(strconv.Itoa(p.N))
	case api.PatAny:
		w.put(".")
	case api.PatStar, api.PatPlus, api.PatMaybe:
		w.patternIn(p.Kind, p.Sub[0])
		w.put(repeatWords()[p.Kind])
	default:
		for i, part := range p.Sub {
			if i > 0 && p.Kind == api.PatAlt {
				w.put("|")
			}
			w.patternIn(p.Kind, part)
		}
	}
}

// patternIn puts a part of a pattern of a kind.
func (w *writer) patternIn(outer int, part api.Pattern) {
	if part.Kind == api.PatAlt || part.Kind == api.PatSeq && outer != api.PatAlt {
		w.put("(")
		w.pattern(part)
		w.put(")")
		return
	}
	w.pattern(part)
}

func (w *writer) term(term api.Term) {
	if term.If.Kind != api.CondAlways {
		w.put("if")
		w.cond(term.If)
	}
	w.put("then")
	for i, action := range term.Then {
		if i > 0 {
			w.put(",")
		}
		w.action(action)
	}
	w.line(";")
}

func (w *writer) cond(c api.Cond) {
	switch c.Kind {
	case api.CondPrefix:
		w.put("prefix", c.Name)
	case api.CondPath:
		w.put("path", c.Name)
	case api.CondMark:
		w.put("mark", markText(c.N))
	case api.CondCompare:
		w.put(fieldWords()[c.Field], opWords()[c.Op], strconv.Itoa(c.N))
	case api.CondNot:
		w.put("not")
		w.condIn(c.Kind, c.Sub[0])
	case api.CondAnd:
		w.conds("and", c)
	case api.CondOr:
		w.conds("or", c)
	}
}

// conds puts the parts of a condition with a word between each two of them.
func (w *writer) conds(between string, c api.Cond) {
	for i, part := range c.Sub {
		if i > 0 {
			w.put(between)
		}
		w.condIn(c.Kind, part)
	}
}

// condIn puts a part of a condition of a kind.
func (w *writer) condIn(outer int, part api.Cond) {
	if part.Kind == api.CondOr || part.Kind == api.CondAnd && outer != api.CondOr {
		w.put("(")
		w.cond(part)
		w.put(")")
		return
	}
	w.cond(part)
}

func (w *writer) action(a api.Action) {
	w.put(actionWords()[a.Kind])
	switch a.Kind {
	case api.ActPref, api.ActMed, api.ActPrepend:
		w.put(strconv.Itoa(a.N))
	case api.ActAdd, api.ActDrop:
		w.put(markText(a.N))
	case api.ActCall:
		w.put(a.Name)
	}
}
