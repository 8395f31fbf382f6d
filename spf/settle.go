package spf

import (
	"math"
	"slices"

	"wayfinder/api"
	"wayfinder/rising"
)

// far is the distance of what is not reached. It is beyond all others, and with a cost added it is still a number, beyond far.
const far = math.MaxInt / 2

// now is how a router is reached as far as is known.
func (t *Tree) now(node int) api.Reach {
	if r, ok := t.known[node]; ok {
		return r
	}
	return api.Reach{Node: node, Dist: far}
}

// best is how a router is reached if those are right that lead to it.
func (t *Tree) best(node int) api.Reach {
	if node == t.root {
		return api.Reach{Node: node}
	}
	least, links := far, rising.Set{}
	for _, e := range t.net.into[node] {
		ahead := t.now(e.From)
		dist := ahead.Dist + e.Cost
		if dist > least || !t.net.stands(e) {
			continue
		}
		if dist < least {
			least, links = dist, rising.Set{}
		}
		if e.From == t.root {
			links.Add(e.Link)
		} else {
			links.Add(ahead.Links...)
		}
	}
	return api.Reach{Node: node, Dist: least, Links: links.List()}
}

func same(a, b api.Reach) bool { return a.Dist == b.Dist && slices.Equal(a.Links, b.Links) }

// settle makes known what is so since edges of these routers have changed, and answers the routers that are reached otherwise than ahead of it, rising.
//
// A router's turn comes no later than at the least of the distances at which it is reached as far as is known and at best. So when it comes, all that is known of nearer routers is right; and since each edge costs something, what is best at that distance hangs on these alone. Beside those in doubt only routers to which an edge of a changed one leads get a turn, so the rest of the network is not looked at.
func (t *Tree) settle(doubtful ...int) []int {
	q, changed := newQueue(), rising.Set{}
	for _, node := range doubtful {
		q.add(node, min(t.now(node).Dist, t.best(node).Dist))
	}
	for next, ok := q.next(); ok; next, ok = q.next() {
		was, best := t.now(next.node), t.best(next.node)
		least := min(was.Dist, best.Dist)
		switch {
		case same(was, best):
			continue
		case least > next.dist:
			q.add(next.node, least)
			continue
		case was.Dist < best.Dist:
			// Nothing leads to it at this distance any more. What is best now may itself hang on what is lost: that is looked at when its turn has come.
			delete(t.known, next.node)
			q.add(next.node, best.Dist)
		default:
			t.known[next.node] = best
		}
		changed.Add(next.node)
		t.spread(q, was)
	}
	return changed.List()
}

// spread gives a turn to the routers for which it matters that one was reached so and now is otherwise.
func (t *Tree) spread(q *queue, was api.Reach) {
	now := t.now(was.Node)
	for _, e := range t.net.out[was.Node] {
		dist := t.now(e.To).Dist
		lost, gained := was.Dist+e.Cost == dist, now.Dist+e.Cost <= dist
		if (lost || gained) && t.net.stands(e) {
			q.add(e.To, min(dist, now.Dist+e.Cost))
		}
	}
}
