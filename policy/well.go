package policy

import (
	"wayfinder/api"
	"wayfinder/pfx"
)

// wellFormed says whether there is a text of the file, were texts and brackets without bounds.
func wellFormed(f api.PolicyFile) bool {
	return all(f.Sets, wellSet) && all(f.Paths, wellPath) && all(f.Policies, wellPolicy)
}

func all[T any](list []T, right func(T) bool) bool {
	for _, x := range list {
		if !right(x) {
			return false
		}
	}
	return true
}

func isNumber(n int) bool { return n >= 0 && n <= maxNumber }

func wellSet(set api.PolicySet) bool { return isName(set.Name) && all(set.Items, wellItem) }

func wellItem(item api.PolicyItem) bool {
	return pfx.Valid(item.Prefix) && item.To >= item.Prefix.Len && item.To <= maxTo
}

func wellPath(path api.PolicyPath) bool { return isName(path.Name) && wellPattern(path.Pattern) }

func wellPattern(p api.Pattern) bool {
	if p.N != 0 && p.Kind != api.PatNumber {
		return false
	}
	return wellCount(p) && all(p.Sub, wellPattern)
}

// wellCount says whether a pattern is of a known kind and has a number and so many parts as that kind has.
func wellCount(p api.Pattern) bool {
	count := len(p.Sub)
	switch p.Kind {
	case api.PatNumber:
		return count == 0 && isNumber(p.N)
	case api.PatAny:
		return count == 0
	case api.PatSeq:
		return count != 1
	case api.PatAlt:
		return count >= 2
	case api.PatStar, api.PatPlus, api.PatMaybe:
		return count == 1
	}
	return false
}

func wellPolicy(policy api.Policy) bool { return isName(policy.Name) && all(policy.Terms, wellTerm) }

func wellTerm(term api.Term) bool {
	return (isAlways(term.If) || wellCond(term.If)) && len(term.Then) > 0 && all(term.Then, wellAction)
}

func isAlways(c api.Cond) bool { return c.Kind == api.CondAlways && isBare(c) }

// isBare says whether a condition has nothing but its kind.
func isBare(c api.Cond) bool {
	return c.Name == "" && c.Field == 0 && c.Op == 0 && c.N == 0 && len(c.Sub) == 0
}

// wellCond takes off what a condition's kind needs, if it is right; nothing may be left then.
func wellCond(c api.Cond) bool {
	right := false
	switch c.Kind {
	case api.CondPrefix, api.CondPath:
		right = isName(c.Name)
		c.Name = ""
	case api.CondMark:
		right = isNumber(c.N)
		c.N = 0
	case api.CondCompare:
		right = wellCompare(c)
		c.Field, c.Op, c.N = 0, 0, 0
	case api.CondAnd, api.CondOr:
		right = len(c.Sub) >= 2 && all(c.Sub, wellCond)
		c.Sub = nil
	case api.CondNot:
		right = len(c.Sub) == 1 && wellCond(c.Sub[0])
		c.Sub = nil
	}
	return right && isBare(c)
}

func wellCompare(c api.Cond) bool {
	return c.Field >= api.FieldPref && c.Field <= api.FieldOrigin && c.Op >= api.OpEqual && c.Op <= api.OpGreater && isNumber(c.N)
}

func wellAction(a api.Action) bool {
	switch a.Kind {
	case api.ActAccept, api.ActReject:
		return a.N == 0 && a.Name == ""
	case api.ActPref, api.ActMed, api.ActAdd, api.ActDrop:
		return isNumber(a.N) && a.Name == ""
	case api.ActPrepend:
		return a.N >= leastPrepend && a.N <= mostPrepend && a.Name == ""
	case api.ActCall:
		return a.N == 0 && isName(a.Name)
	}
	return false
}
