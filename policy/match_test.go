package policy_test

import (
	"slices"
	"testing"

	"wayfinder/api"
	"wayfinder/policy"
)

func TestH6Match(t *testing.T) {
	for text, paths := range map[string]struct{ is, not [][]int }{
		"":                  {is: [][]int{nil, {}}, not: [][]int{{1}, {0}}},
		"0":                 {is: [][]int{{0}}, not: [][]int{nil, {1}, {0, 0}}},
		"1":                 {is: [][]int{{1}}, not: [][]int{nil, {2}, {1, 1}, {-1}}},
		"4294967295":        {is: [][]int{{4294967295}}, not: [][]int{{-1}, {4294967294}}},
		".":                 {is: [][]int{{1}, {0}, {-5}, {1 << 40}}, not: [][]int{nil, {1, 1}}},
		"1 2":               {is: [][]int{{1, 2}}, not: [][]int{nil, {1}, {2}, {2, 1}, {1, 2, 3}, {0, 1, 2}}},
		"1 | 2 3":           {is: [][]int{{1}, {2, 3}}, not: [][]int{nil, {2}, {3}, {1, 3}, {1, 2, 3}}},
		"| 1":               {is: [][]int{nil, {1}}, not: [][]int{{2}, {1, 1}}},
		"1 *":               {is: [][]int{nil, {1}, {1, 1, 1}}, not: [][]int{{2}, {1, 2}, {2, 1}, {1, 2, 1}}},
		"1 +":               {is: [][]int{{1}, {1, 1, 1}}, not: [][]int{nil, {2}, {1, 2}}},
		"1 ?":               {is: [][]int{nil, {1}}, not: [][]int{{2}, {1, 1}}},
		"( 1 2 ) *":         {is: [][]int{nil, {1, 2}, {1, 2, 1, 2}}, not: [][]int{{1}, {1, 2, 1}, {2, 1}}},
		"( 1 | 2 ) + 3 ?":   {is: [][]int{{1}, {2, 1}, {1, 1, 3}}, not: [][]int{nil, {3}, {1, 3, 3}, {1, 3, 1}}},
		". * 7 . *":         {is: [][]int{{7}, {1, 7}, {7, 7, 7}, {1, 2, 7, 3}}, not: [][]int{nil, {1}, {1, 2}}},
		"( 1 * ) *":         {is: [][]int{nil, {1}, {1, 1}}, not: [][]int{{2}, {1, 2}}},
		"( ) +":             {is: [][]int{nil}, not: [][]int{{1}}},
		"( | 1 ) + 2":       {is: [][]int{{2}, {1, 2}, {1, 1, 2}}, not: [][]int{nil, {1}, {2, 2}}},
		"( 1 ? ) + ( 2 * )": {is: [][]int{nil, {1}, {2}, {1, 1, 2, 2}}, not: [][]int{{2, 1}, {3}}},
		". . .":             {is: [][]int{{1, 2, 3}}, not: [][]int{{1, 2}, {1, 2, 3, 4}}},
	} {
		p := pattern(t, text)
		for _, path := range paths.is {
			if !policy.Match(p, path) {
				t.Errorf("%v must be of %q", path, text)
			}
		}
		for _, path := range paths.not {
			if policy.Match(p, path) {
				t.Errorf("%v must not be of %q", path, text)
			}
		}
	}
}

// isOf says by trying all ways to part it whether a path is of a pattern.
func isOf(p api.Pattern, path []int) bool {
	switch p.Kind {
	case api.PatNumber:
		return slices.Equal(path, []int{p.N})
	case api.PatAny:
		return len(path) == 1
	case api.PatSeq:
		if len(p.Sub) == 0 {
			return len(path) == 0
		}
		for i := range len(path) + 1 {
			if isOf(p.Sub[0], path[:i]) && isOf(api.Pattern{Kind: api.PatSeq, Sub: p.Sub[1:]}, path[i:]) {
				return true
			}
		}
	case api.PatAlt:
		return slices.ContainsFunc(p.Sub, func(x api.Pattern) bool { return isOf(x, path) })
	case api.PatStar, api.PatPlus, api.PatMaybe:
		if len(p.Sub) != 1 {
			return false
		}
		if len(path) == 0 && p.Kind != api.PatPlus || isOf(p.Sub[0], path) {
			return true
		}
		// More than once: no part need be empty.
		for i := 1; i < len(path) && p.Kind != api.PatMaybe; i++ {
			if isOf(p.Sub[0], path[:i]) && isOf(p, path[i:]) {
				return true
			}
		}
	}
	return false
}

// odds draws patterns of which many are not well formed.
func (d draw) odds(deep int) api.Pattern {
	p := api.Pattern{Kind: []int{1, 1, 1, 2, 2, 3, 4, 5, 6, 7, 0, 8, -1}[d.Intn(13)], N: d.Intn(3)}
	if deep > 0 {
		p.Kind = []int{3, 3, 4, 4, 5, 6, 7}[d.Intn(7)]
	}
	count := d.Intn(4)
	if p.Kind >= api.PatStar && d.Intn(8) > 0 {
		count = 1
	}
	for range min(count, deep*4) {
		p.Sub = append(p.Sub, d.odds(d.Intn(deep)))
	}
	return p
}

func TestH6AnyPattern(t *testing.T) {
	d := newDraw(7)
	paths := [][]int{nil}
	for i := 0; len(paths[i]) < 4; i++ {
		for n := range 3 {
			paths = append(paths, append(slices.Clone(paths[i]), n))
		}
	}
	is := 0
	for range 3000 {
		p := d.odds(d.Intn(5))
		if d.Intn(2) == 0 {
			p = d.pattern(d.Intn(5))
		}
		for range 12 {
			path := paths[d.Intn(len(paths))]
			want := isOf(p, path)
			if got := policy.Match(p, path); got != want {
				t.Fatalf("Match of %+v and %v: %v, must be %v", p, path, got, want)
			}
			if want {
				is++
			}
		}
	}
	if is < 3000 {
		t.Errorf("only %d paths are of a pattern", is)
	}
}

func TestH6OfNoPath(t *testing.T) {
	one := api.Pattern{Kind: api.PatNumber, N: 1}
	for _, p := range []api.Pattern{
		{}, {Kind: 8}, {Kind: -1}, {Kind: 99, N: 1, Sub: []api.Pattern{one}}, {Kind: api.PatAlt},
		{Kind: api.PatStar}, {Kind: api.PatPlus}, {Kind: api.PatMaybe},
		{Kind: api.PatStar, Sub: []api.Pattern{one, one}}, {Kind: api.PatPlus, Sub: []api.Pattern{one, one}}, {Kind: api.PatMaybe, Sub: []api.Pattern{one, one}},
		{Kind: api.PatPlus, Sub: []api.Pattern{{Kind: api.PatAlt}}}, {Kind: api.PatSeq, Sub: []api.Pattern{one, {Kind: 9}}},
	} {
		for _, path := range [][]int{nil, {0}, {1}, {1, 1}, {1, 1, 1}} {
			if policy.Match(p, path) {
				t.Errorf("%v must not be of %+v", path, p)
			}
		}
	}
	// Such a part does not spoil those beside it.
	for _, p := range []api.Pattern{
		{Kind: api.PatAlt, Sub: []api.Pattern{{Kind: 9}, one, {Kind: api.PatStar}}}, {Kind: api.PatSeq, Sub: []api.Pattern{one}}, {Kind: api.PatAlt, Sub: []api.Pattern{one}},
		{Kind: api.PatNumber, N: 1, Sub: []api.Pattern{one, one}}, {Kind: api.PatAny, N: 7, Sub: []api.Pattern{one}}, {Kind: api.PatMaybe, N: 5, Sub: []api.Pattern{one}},
	} {
		if !policy.Match(p, []int{1}) || policy.Match(p, []int{1, 1}) {
			t.Errorf("of %+v there must be [1], and not [1 1]", p)
		}
	}
	if !policy.Match(api.Pattern{Kind: api.PatStar, Sub: []api.Pattern{{Kind: api.PatAlt}}}, nil) || !policy.Match(api.Pattern{Kind: api.PatNumber, N: -7}, []int{-7}) {
		t.Error("none of what is of no path is the empty path; a number may be any")
	}
}

// TestH6Deep: patterns that take a path in very many ways are answered soon.
func TestH6Deep(t *testing.T) {
	one := api.Pattern{Kind: api.PatNumber, N: 1}
	path := slices.Repeat([]int{1}, 64)
	for _, kind := range []int{api.PatStar, api.PatPlus, api.PatMaybe} {
		p, q := one, one
		for range 60000 {
			p = api.Pattern{Kind: kind, Sub: []api.Pattern{p}}
		}
		for range 30000 {
			q = api.Pattern{Kind: kind, Sub: []api.Pattern{{Kind: api.PatSeq, Sub: []api.Pattern{q, {Kind: api.PatMaybe, Sub: []api.Pattern{one}}}}}}
		}
		for _, x := range []api.Pattern{p, q} {
			if policy.Match(x, append(slices.Clone(path), 2)) || !policy.Match(x, path[:1]) || policy.Match(x, nil) != (kind != api.PatPlus) {
				t.Errorf("kind %d: a deep pattern takes the wrong paths", kind)
			}
		}
		if policy.Match(p, path) != (kind != api.PatMaybe) || !policy.Match(q, path) {
			t.Errorf("kind %d: a deep pattern takes the wrong paths", kind)
		}
	}
}
