package policy

import (
	"slices"

	"wayfinder/api"
)

// Code is a file made ready.
type Code struct {
	sets     map[string][]api.PolicyItem
	paths    map[string]*machine
	policies map[string][]api.Term
}

// codeOf makes a file ready with which nothing is wrong.
func codeOf(f api.PolicyFile) *Code {
	c := &Code{map[string][]api.PolicyItem{}, map[string]*machine{}, map[string][]api.Term{}}
	for _, set := range f.Sets {
		c.sets[set.Name] = slices.Clone(set.Items)
	}
	for _, path := range f.Paths {
		c.paths[path.Name] = machineOf(path.Pattern)
	}
	for _, policy := range f.Policies {
		c.policies[policy.Name] = copyTerms(policy.Terms)
	}
	return c
}

func copyTerms(terms []api.Term) []api.Term {
	out := make([]api.Term, len(terms))
	for i, term := range terms {
		out[i] = api.Term{If: copyCond(term.If), Then: slices.Clone(term.Then)}
	}
	return out
}

func copyCond(c api.Cond) api.Cond {
	c.Sub = slices.Clone(c.Sub)
	for i, part := range c.Sub {
		c.Sub[i] = copyCond(part)
	}
	return c
}

// Run asks one policy about a route.
func (c *Code) Run(name string, r api.Route, own int) (api.Route, int, api.Errno) {
	terms, known := c.policies[name]
	if !known {
		return api.Route{}, 0, api.ErrName
	}
	r.Path, r.Marks, r.Clusters = slices.Clone(r.Path), slices.Clone(r.Marks), slices.Clone(r.Clusters)
	one := run{code: c, route: r, own: own, known: map[question]int{}}
	if one.terms(terms) != api.Accept {
		return api.Route{}, api.Reject, api.OK
	}
	return one.route, api.Accept, api.OK
}
