package policy

import (
	"cmp"

	"wayfinder/api"
)

// names says where in its list each set, pattern and policy of a file stands. All names in here are those of well-formed files; as none of these is "", that stands for no name.
type names struct {
	sets, paths, policies map[string]int
}

// namesOf gives the names of a file, and the first one that an earlier one of its kind has.
func namesOf(f api.PolicyFile) (n names, twice string) {
	var set, path, policy string
	n.sets, set = places(f.Sets, func(s api.PolicySet) string { return s.Name })
	n.paths, path = places(f.Paths, func(p api.PolicyPath) string { return p.Name })
	n.policies, policy = places(f.Policies, func(p api.Policy) string { return p.Name })
	return n, cmp.Or(set, path, policy)
}

func places[T any](list []T, nameOf func(T) string) (at map[string]int, twice string) {
	at = map[string]int{}
	for i, x := range list {
		name := nameOf(x)
		if _, known := at[name]; known {
			return at, name
		}
		at[name] = i
	}
	return at, ""
}

// unknown gives the first name that is used and not defined.
func (n names) unknown(policies []api.Policy) string {
	for _, policy := range policies {
		for _, term := range policy.Terms {
			if name := cmp.Or(n.unknownInCond(term.If), n.unknownInActions(term.Then)); name != "" {
				return name
			}
		}
	}
	return ""
}

func (n names) unknownInCond(c api.Cond) string {
	known := true
	switch c.Kind {
	case api.CondPrefix:
		_, known = n.sets[c.Name]
	case api.CondPath:
		_, known = n.paths[c.Name]
	}
	if !known {
		return c.Name
	}
	for _, part := range c.Sub {
		if name := n.unknownInCond(part); name != "" {
			return name
		}
	}
	return ""
}

func (n names) unknownInActions(actions []api.Action) string {
	for _, a := range actions {
		if _, known := n.policies[a.Name]; !known && a.Kind == api.ActCall {
			return a.Name
		}
	}
	return ""
}

// calls gives for each policy which ones it calls; all of them are defined.
func (n names) calls(policies []api.Policy) [][]int {
	all := make([][]int, len(policies))
	for i, policy := range policies {
		for _, term := range policy.Terms {
			for _, a := range term.Then {
				if a.Kind == api.ActCall {
					all[i] = append(all[i], n.policies[a.Name])
				}
			}
		}
	}
	return all
}
