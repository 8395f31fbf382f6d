package spf_test

import (
	"math"
	"math/rand"
	"slices"
	"testing"

	"wayfinder/api"
	"wayfinder/spf"
)

// wrong: edges that are not valid, by one number each.
var wrong = []api.Edge{
	edge(1, 1, 1, 0), edge(0, 0, 1, 0),
	edge(-1, 1, 1, 0), edge(1<<32, 1, 1, 0), edge(math.MinInt, 1, 1, 0), edge(math.MaxInt, 1, 1, 0),
	edge(1, -1, 1, 0), edge(1, 1<<32, 1, 0), edge(1, math.MinInt, 1, 0), edge(1, math.MaxInt, 1, 0),
	edge(1, 2, 0, 0), edge(1, 2, -1, 0), edge(1, 2, 65536, 0), edge(1, 2, math.MinInt, 0), edge(1, 2, math.MaxInt, 0),
	edge(1, 2, 1, -1), edge(1, 2, 1, 65536), edge(1, 2, 1, math.MinInt), edge(1, 2, 1, math.MaxInt),
}

// example is that of the chapter.
var example = []api.Edge{edge(1, 2, 5, 0), edge(2, 1, 1, 0), edge(2, 3, 2, 1), edge(3, 2, 2, 0), edge(1, 3, 7, 1), edge(3, 1, 7, 1)}

func reach(node, dist int, links ...int) api.Reach {
	return api.Reach{Node: node, Dist: dist, Links: links}
}

func TestD1Valid(t *testing.T) {
	for _, e := range wrong {
		back := edge(e.To, e.From, 1, 9)
		paths(t, "a wrong edge", spf.Paths([]api.Edge{e, back}, e.From), []api.Reach{reach(e.From, 0)})
		paths(t, "a wrong edge back", spf.Paths([]api.Edge{back, e}, e.To), []api.Reach{reach(e.To, 0)})
		l := append([]api.Edge{edge(1, 2, 4, 0), edge(2, 1, 4, 0)}, e)
		paths(t, "a wrong edge behind one at its port", spf.Paths(l, 1), []api.Reach{reach(1, 0), reach(2, 4, 0)})
	}
	l := []api.Edge{edge(0, 1<<32-1, 65535, 65535), edge(1<<32-1, 0, 1, 0)}
	paths(t, "the greatest numbers", spf.Paths(l, 0), []api.Reach{reach(0, 0), reach(1<<32-1, 65535, 65535)})
	paths(t, "the least numbers", spf.Paths(l, 1<<32-1), []api.Reach{reach(0, 1, 0), reach(1<<32-1, 0)})
}

func TestD1LastCounts(t *testing.T) {
	l := append(both(1, 0, 2, 0, 5), both(1, 1, 3, 0, 5)...)
	paths(t, "another cost", spf.Paths(append(slices.Clone(l), edge(1, 2, 9, 0)), 1), []api.Reach{reach(1, 0), reach(2, 9, 0), reach(3, 5, 1)})
	paths(t, "another end", spf.Paths(append(slices.Clone(l), edge(1, 3, 2, 0)), 1), []api.Reach{reach(1, 0), reach(3, 2, 0)})
	paths(t, "another link", spf.Paths(append(slices.Clone(l), edge(1, 2, 5, 7)), 1), []api.Reach{reach(1, 0), reach(2, 5, 0, 7), reach(3, 5, 1)})
	paths(t, "of another router", spf.Paths(append(slices.Clone(l), edge(2, 3, 1, 1)), 1), []api.Reach{reach(1, 0), reach(2, 5, 0), reach(3, 5, 1)})
}

func TestD1Stands(t *testing.T) {
	paths(t, "no edge back", spf.Paths([]api.Edge{edge(1, 2, 1, 0)}, 1), []api.Reach{reach(1, 0)})
	paths(t, "only the edge back", spf.Paths([]api.Edge{edge(2, 1, 1, 0)}, 1), []api.Reach{reach(1, 0)})
	paths(t, "back at another cost, over another link", spf.Paths([]api.Edge{edge(1, 2, 1, 0), edge(2, 1, 65535, 8)}, 1), []api.Reach{reach(1, 0), reach(2, 1, 0)})
	paths(t, "one back for several", spf.Paths([]api.Edge{edge(1, 2, 3, 0), edge(1, 2, 3, 4), edge(1, 2, 4, 5), edge(2, 1, 9, 8)}, 1), []api.Reach{reach(1, 0), reach(2, 3, 0, 4)})
	paths(t, "a ring of one direction", spf.Paths([]api.Edge{edge(1, 2, 1, 0), edge(2, 3, 1, 0), edge(3, 1, 1, 0)}, 1), []api.Reach{reach(1, 0)})
	paths(t, "what led back leads elsewhere", spf.Paths(append(both(1, 0, 2, 0, 1), edge(2, 3, 1, 0), edge(3, 2, 1, 0)), 1), []api.Reach{reach(1, 0)})
}

func TestD2Paths(t *testing.T) {
	paths(t, "the example", spf.Paths(example, 1), []api.Reach{reach(1, 0), reach(2, 5, 0), reach(3, 7, 0, 1)})
	paths(t, "without 3 to 1", spf.Paths(example[:5], 1), []api.Reach{reach(1, 0), reach(2, 5, 0), reach(3, 7, 0)})
	paths(t, "from 2", spf.Paths(example, 2), []api.Reach{reach(1, 1, 0), reach(2, 0), reach(3, 2, 1)})
	for _, root := range []int{0, 7, -7, 1 << 32, math.MinInt, math.MaxInt} {
		paths(t, "a root alone", spf.Paths(nil, root), []api.Reach{reach(root, 0)})
		paths(t, "a root apart", spf.Paths(example, root), []api.Reach{reach(root, 0)})
	}
}

func TestD2AgainstAllPaths(t *testing.T) {
	r := rand.New(rand.NewSource(1))
	for range 4000 {
		var l []api.Edge
		for range r.Intn(24) {
			l = append(l, draw(r, 2+r.Intn(4), 1+r.Intn(4), 4))
		}
		root := r.Intn(5)
		m := modelOf(l)
		paths(t, "the two models", m.relaxed(root), m.walked(root))
		paths(t, "D2 Paths", spf.Paths(l, root), m.walked(root))
	}
}

func TestD2Larger(t *testing.T) {
	r := rand.New(rand.NewSource(2))
	for range 60 {
		var l []api.Edge
		for range r.Intn(160) {
			e := draw(r, 24, 1+r.Intn(6), 12)
			l = append(l, e, edge(e.To, e.From, 1+r.Intn(4), r.Intn(12)))
		}
		root := r.Intn(24)
		paths(t, "D2 Paths", spf.Paths(l, root), modelOf(l).relaxed(root))
	}
}

// TestD2Far: a way whose length takes more than 32 bits.
func TestD2Far(t *testing.T) {
	const steps = 66000
	var l []api.Edge
	for i := range steps {
		l = append(l, both(i, 0, i+1, 1, 65535)...)
	}
	got := spf.Paths(l, 0)
	if last := got[len(got)-1]; len(got) != steps+1 || !sameReach(last, reach(steps, steps*65535, 0)) {
		t.Errorf("%d routers, the last one %v", len(got), last)
	}
}

// TestD2Many: as many links as there may be, all as good as each other.
func TestD2Many(t *testing.T) {
	l := []api.Edge{edge(2, 1, 1, 0), edge(2, 3, 1, 1), edge(3, 2, 1, 0)}
	var all []int
	for i := range 65536 {
		l = append(l, edge(1, 2, 7, 65535-i))
		all = append(all, i)
	}
	paths(t, "D2 Paths", spf.Paths(l, 1), []api.Reach{reach(1, 0), reach(2, 7, all...), reach(3, 8, all...)})
}

func changed(t *testing.T, what string, got []int, e api.Errno, want ...int) {
	t.Helper()
	if e != api.OK || !slices.Equal(got, want) {
		t.Fatalf("%s: %v %v, must be %v", what, got, e, want)
	}
}

func TestD3Example(t *testing.T) {
	tree := spf.Grow(example, 1)
	got, e := tree.Cut(3, 1)
	changed(t, "3 by one link less", got, e, 3)
	got, e = tree.Set(edge(3, 1, 9, 4))
	changed(t, "3 by both again", got, e, 3)
	got, e = tree.Set(edge(1, 3, 6, 1))
	changed(t, "3 nearer", got, e, 3)
	got, e = tree.Set(edge(1, 3, 6, 1))
	changed(t, "the same again", got, e)
	got, e = tree.Set(edge(1, 3, 2, 1))
	changed(t, "2 by way of 3 too", got, e, 2, 3)
	got, e = tree.Set(edge(1, 4, 2, 1))
	changed(t, "to where nothing leads back", got, e, 2, 3)
	got, e = tree.Set(edge(4, 1, 1, 0))
	changed(t, "what stands now", got, e, 4)
	got, e = tree.Cut(2, 0)
	changed(t, "2 and 3 are lost", got, e, 2, 3)
	paths(t, "what is left", tree.Reaches(), []api.Reach{reach(1, 0), reach(4, 2, 1)})
}

func TestD3Errors(t *testing.T) {
	tree, m := spf.Grow(example, 1), modelOf(example)
	for _, e := range wrong {
		if got, err := tree.Set(e); err != api.ErrRange || len(got) != 0 {
			t.Errorf("Set %v: %v %v, must be range", e, got, err)
		}
		m.holds(t, tree, 1)
	}
	for _, p := range [][2]int{{1, 2}, {4, 0}, {-1, 0}, {1, -1}, {math.MinInt, math.MinInt}, {math.MaxInt, math.MaxInt}, {1 << 32, 0}, {1, 65536}} {
		if got, err := tree.Cut(p[0], p[1]); err != api.ErrNone || len(got) != 0 {
			t.Errorf("Cut %v: %v %v, must be none", p, got, err)
		}
		m.holds(t, tree, 1)
	}
	tree.Cut(1, 0)
	if got, err := tree.Cut(1, 0); err != api.ErrNone || len(got) != 0 {
		t.Errorf("Cut again: %v %v, must be none", got, err)
	}
}

// step changes a tree and a model alike, and holds the answer against the model's paths.
func step(t *testing.T, r *rand.Rand, tree *spf.Tree, m model, root int, e api.Edge) {
	t.Helper()
	before := m.relaxed(root)
	var got []int
	var err, want api.Errno
	if r.Intn(3) == 0 {
		got, err = tree.Cut(e.From, e.Link)
		if _, had := m[[2]int{e.From, e.Link}]; !had {
			want = api.ErrNone
		}
		delete(m, [2]int{e.From, e.Link})
	} else {
		got, err = tree.Set(e)
		if !m.set(e) {
			want = api.ErrRange
		}
	}
	if other := differing(before, m.relaxed(root)); err != want || !slices.Equal(got, other) {
		t.Fatalf("D3 %v: %v %v, must be %v %v", e, got, err, other, want)
	}
	m.holds(t, tree, root)
}

func TestD3D4Steps(t *testing.T) {
	r := rand.New(rand.NewSource(3))
	for range 150 {
		var l []api.Edge
		nodes, costs, links := 2+r.Intn(8), 1+r.Intn(6), 1+r.Intn(5)
		for range r.Intn(60) {
			l = append(l, draw(r, nodes, costs, links))
		}
		root := r.Intn(nodes+1) - r.Intn(2)
		tree, m := spf.Grow(l, root), modelOf(l)
		m.holds(t, tree, root)
		for range 80 {
			step(t, r, tree, m, root, draw(r, nodes, costs, links))
		}
	}
}

// TestD3Larger: a net that holds together, in which single wires are cut, mended, and made dearer or cheaper.
func TestD3Larger(t *testing.T) {
	r := rand.New(rand.NewSource(4))
	const side = 4
	for range 6 {
		tree, m := spf.Grow(nil, 0), model{}
		put := func(e api.Edge) { step(t, rand.New(rand.NewSource(1)), tree, m, 0, e) }
		for n := range side * side {
			if n%side < side-1 {
				put(edge(n, n+1, 1+r.Intn(3), 0))
				put(edge(n+1, n, 1+r.Intn(3), 1))
			}
			if n < side*(side-1) {
				put(edge(n, n+side, 1+r.Intn(3), 2))
				put(edge(n+side, n, 1+r.Intn(3), 3))
			}
		}
		edges := m.edges()
		for range 60 {
			e := edges[r.Intn(len(edges))]
			e.Cost = 1 + r.Intn(9)
			step(t, r, tree, m, 0, e)
		}
	}
}

func TestD4Edges(t *testing.T) {
	l := []api.Edge{edge(7, 1, 1, 2), edge(1, 2, 1, 65535), edge(1, 7, 1, 3), edge(7, 1, 9, 2), edge(7, 2, 1, 1), edge(1<<32-1, 7, 1, 0), edge(1, 1, 1, 4)}
	want := []api.Edge{edge(1, 7, 1, 3), edge(1, 2, 1, 65535), edge(7, 2, 1, 1), edge(7, 1, 9, 2), edge(1<<32-1, 7, 1, 0)}
	if got := spf.Grow(l, 1).Edges(); !slices.Equal(got, want) {
		t.Errorf("%v, must be %v", got, want)
	}
	if got := spf.Grow(wrong, 1).Edges(); len(got) != 0 {
		t.Errorf("%v, must be empty", got)
	}
}

func TestP2EdgesAreOnlyRead(t *testing.T) {
	room := append(slices.Clone(example), wrong...)
	kept := slices.Clone(room)
	handed := room[:len(example)]
	spf.Paths(handed, 1)
	tree := spf.Grow(handed, 1)
	tree.Cut(1, 0)
	tree.Set(edge(1, 9, 1, 0))
	if !slices.Equal(room, kept) {
		t.Error("what was handed in has changed")
	}
	clear(room)
	m := modelOf(kept[:len(example)])
	m.set(edge(1, 9, 1, 0))
	m.holds(t, tree, 1)
}

func TestP2AnswersAreTheCallers(t *testing.T) {
	tree, m := spf.Grow(append(slices.Clone(example), both(2, 5, 4, 0, 1)...), 1), modelOf(append(slices.Clone(example), both(2, 5, 4, 0, 1)...))
	for range 2 {
		spoil(tree.Reaches())
		r, _ := tree.At(3)
		spoil([]api.Reach{r})
		edges := tree.Edges()
		clear(edges[:cap(edges)])
		m.holds(t, tree, 1)
		got, _ := tree.Set(edge(1, 2, 4, 0))
		clear(got[:cap(got)])
		m.set(edge(1, 2, 4, 0))
		m.holds(t, tree, 1)
	}
	got := tree.Reaches()
	for i := range got {
		spoil(got[i : i+1])
		paths(t, "lists that are left alone", got[i+1:], m.relaxed(1)[i+1:])
	}
}

// spoil writes over all lists, and the room behind them.
func spoil(l []api.Reach) {
	for _, r := range l {
		links := r.Links[:cap(r.Links)]
		for i := range links {
			links[i] = -5
		}
	}
}

func TestP3TwoTrees(t *testing.T) {
	one, two := spf.Grow(example, 1), spf.Grow(example, 1)
	one.Cut(1, 0)
	one.Set(edge(1, 3, 1, 1))
	modelOf(example).holds(t, two, 1)
}
