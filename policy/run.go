package policy

import (
	"cmp"
	"slices"

	"wayfinder/api"
	"wayfinder/pfx"
)

// goOn is what is answered, beside api.Accept and api.Reject, where nothing has ended.
const goOn = 0

// run is one route on its way through policies.
type run struct {
	code  *Code
	route api.Route
	own   int
	count int // how many actions were carried out
	known map[question]int
}

// question is a condition that asks for a set or a pattern. What was found is kept as long as the path stays as it is: policies that are called again and again would search for it thousands of times.
type question struct {
	kind int
	name string
}

// What was found; 0: nothing was asked.
const (
	yes = 1
	no  = 2
)

func (r *run) terms(terms []api.Term) int {
	for _, term := range terms {
		if !r.holds(term.If) {
			continue
		}
		if end := r.actions(term.Then); end != goOn {
			return end
		}
	}
	return goOn
}

func (r *run) actions(actions []api.Action) int {
	for _, a := range actions {
		if r.count == api.MaxActions {
			return api.Reject
		}
		r.count++
		if end := r.act(a); end != goOn {
			return end
		}
	}
	return goOn
}

func (r *run) act(a api.Action) int {
	switch a.Kind {
	case api.ActAccept:
		return api.Accept
	case api.ActReject:
		return api.Reject
	case api.ActPref:
		r.route.Pref = a.N
	case api.ActMed:
		r.route.Med = a.N
	case api.ActAdd:
		return r.add(a.N)
	case api.ActDrop:
		r.route.Marks = slices.DeleteFunc(r.route.Marks, func(m int) bool { return m == a.N })
	case api.ActPrepend:
		return r.prepend(a.N)
	case api.ActCall:
		return r.terms(r.code.policies[a.Name])
	}
	return goOn
}

func (r *run) add(mark int) int {
	marks := r.route.Marks
	if slices.Contains(marks, mark) {
		return goOn
	}
	if len(marks) >= api.MaxMarks {
		return api.Reject
	}
	at := slices.IndexFunc(marks, func(m int) bool { return m > mark })
	if at < 0 {
		at = len(marks)
	}
	r.route.Marks = slices.Insert(marks, at, mark)
	return goOn
}

func (r *run) prepend(times int) int {
	if len(r.route.Path)+times > api.MaxPath {
		return api.Reject
	}
	r.route.Path = slices.Concat(slices.Repeat([]int{r.own}, times), r.route.Path)
	clear(r.known)
	return goOn
}

func (r *run) holds(c api.Cond) bool {
	switch c.Kind {
	case api.CondPrefix, api.CondPath:
		return r.find(question{c.Kind, c.Name})
	case api.CondMark:
		return slices.Contains(r.route.Marks, c.N)
	case api.CondCompare:
		return r.compares(c)
	case api.CondAnd:
		return all(c.Sub, r.holds)
	case api.CondOr:
		return slices.ContainsFunc(c.Sub, r.holds)
	case api.CondNot:
		return !r.holds(c.Sub[0])
	}
	return true
}

func (r *run) find(q question) bool {
	if r.known[q] == 0 {
		r.known[q] = no
		if q.kind == api.CondPrefix && r.isIn(r.code.sets[q.name]) || q.kind == api.CondPath && r.code.paths[q.name].takes(r.route.Path) {
			r.known[q] = yes
		}
	}
	return r.known[q] == yes
}

func (r *run) isIn(items []api.PolicyItem) bool {
	p := r.route.Prefix
	return slices.ContainsFunc(items, func(item api.PolicyItem) bool {
		return pfx.Covers(item.Prefix, p) && p.Len <= item.To
	})
}

func (r *run) compares(c api.Cond) bool {
	sign := cmp.Compare(r.field(c.Field), c.N)
	switch c.Op {
	case api.OpEqual:
		return sign == 0
	case api.OpLess:
		return sign < 0
	}
	return sign > 0
}

func (r *run) field(field int) int {
	switch field {
	case api.FieldPref:
		return r.route.Pref
	case api.FieldMed:
		return r.route.Med
	case api.FieldLength:
		return len(r.route.Path)
	}
	return r.route.Origin
}
