package policy

import (
	"errors"
	"slices"

	"wayfinder/api"
)

// Parse reads a file.
func Parse(text string) (api.PolicyFile, error) {
	if len(text) > api.MaxPolicyText {
		return api.PolicyFile{}, &Fault{code: api.ErrLong}
	}
	return readFile(text)
}

// readFile catches what is wrong anywhere in the text. Any other panic would be a mistake of this program, and is let go on.
func readFile(text string) (file api.PolicyFile, err error) {
	defer func() {
		if wrong, ok := recover().(error); ok {
			var fault *Fault
			if !errors.As(wrong, &fault) {
				panic(wrong)
			}
			file, err = api.PolicyFile{}, fault
		}
	}()
	r := &reader{rest: text, size: len(text)}
	for r.next().text != "" {
		r.definition(&file)
	}
	return file, nil
}

func (r *reader) definition(file *api.PolicyFile) {
	switch t := r.take(); t.text {
	case "prefixes":
		file.Sets = append(file.Sets, r.set())
	case "paths":
		file.Paths = append(file.Paths, r.path())
	case "policy":
		file.Policies = append(file.Policies, r.policy())
	default:
		panic(t.fault(api.ErrText))
	}
}

func (r *reader) set() api.PolicySet {
	set := api.PolicySet{Name: r.name()}
	r.must("{")
	for !r.pass("}") {
		set.Items = append(set.Items, r.item())
	}
	return set
}

func (r *reader) item() api.PolicyItem {
	p := r.prefix()
	item := api.PolicyItem{Prefix: p, To: p.Len}
	if r.pass("to") {
		item.To = r.number(p.Len, maxTo)
	}
	r.must(";")
	return item
}

func (r *reader) path() api.PolicyPath {
	path := api.PolicyPath{Name: r.name()}
	r.must("{")
	path.Pattern = r.alternatives()
	r.must("}")
	return path
}

func (r *reader) alternatives() api.Pattern {
	all := parts(r, "|", r.sequence)
	if len(all) == 1 {
		return all[0]
	}
	return api.Pattern{Kind: api.PatAlt, Sub: all}
}

func (r *reader) sequence() api.Pattern {
	var all []api.Pattern
	for !endsSequence(r.next()) {
		all = append(all, r.repeated())
	}
	if len(all) == 1 {
		return all[0]
	}
	return api.Pattern{Kind: api.PatSeq, Sub: all}
}

func endsSequence(t token) bool { return t.text == "|" || t.text == ")" || t.text == "}" }

func (r *reader) repeated() api.Pattern {
	p := r.unit()
	for {
		kind := slices.Index(repeatWords(), r.next().text)
		if kind <= 0 {
			return p
		}
		r.take()
		p = api.Pattern{Kind: kind, Sub: []api.Pattern{p}}
	}
}

func (r *reader) unit() api.Pattern {
	switch r.next().text {
	case "(":
		return within(r, r.take(), r.alternatives)
	case ".":
		r.take()
		return api.Pattern{Kind: api.PatAny}
	}
	return api.Pattern{Kind: api.PatNumber, N: r.number(0, maxNumber)}
}

func (r *reader) policy() api.Policy {
	policy := api.Policy{Name: r.name()}
	r.must("{")
	for !r.pass("}") {
		policy.Terms = append(policy.Terms, r.term())
	}
	return policy
}

func (r *reader) term() api.Term {
	var term api.Term
	if r.pass("if") {
		term.If = r.or()
	}
	r.must("then")
	term.Then = parts(r, ",", r.action)
	r.must(";")
	return term
}

func (r *reader) or() api.Cond { return joined(api.CondOr, parts(r, "or", r.and)) }

func (r *reader) and() api.Cond { return joined(api.CondAnd, parts(r, "and", r.not)) }

func joined(kind int, all []api.Cond) api.Cond {
	if len(all) == 1 {
		return all[0]
	}
	return api.Cond{Kind: kind, Sub: all}
}

func (r *reader) not() api.Cond {
	t := r.take()
	if t.text != "not" {
		return r.atom(t)
	}
	return api.Cond{Kind: api.CondNot, Sub: []api.Cond{within(r, t, r.not)}}
}

// atom reads on behind the first token of one.
func (r *reader) atom(first token) api.Cond {
	switch first.text {
	case "(":
		return within(r, first, r.or)
	case "prefix":
		return api.Cond{Kind: api.CondPrefix, Name: r.name()}
	case "path":
		return api.Cond{Kind: api.CondPath, Name: r.name()}
	case "mark":
		return api.Cond{Kind: api.CondMark, N: r.mark()}
	}
	field := slices.Index(fieldWords(), first.text)
	if field <= 0 {
		panic(first.fault(api.ErrText))
	}
	op := r.op()
	return api.Cond{Kind: api.CondCompare, Field: field, Op: op, N: r.number(0, maxNumber)}
}

func (r *reader) op() int {
	t := r.take()
	op := slices.Index(opWords(), t.text)
	if op <= 0 {
		panic(t.fault(api.ErrText))
	}
	return op
}

func (r *reader) action() api.Action {
	t := r.take()
	a := api.Action{Kind: slices.Index(actionWords(), t.text)}
	switch a.Kind {
	case api.ActAccept, api.ActReject:
	case api.ActPref, api.ActMed:
		a.N = r.number(0, maxNumber)
	case api.ActAdd, api.ActDrop:
		a.N = r.mark()
	case api.ActPrepend:
		a.N = r.number(leastPrepend, mostPrepend)
	case api.ActCall:
		a.Name = r.name()
	default:
		panic(t.fault(api.ErrText))
	}
	return a
}
