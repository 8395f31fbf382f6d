package spf

import "container/heap"

// turn is when a router's turn comes: the nearer first.
type turn struct{ dist, node int }

// turns is a heap.
type turns []turn

func (t turns) Len() int           { return len(t) }
func (t turns) Less(i, j int) bool { return t[i].dist < t[j].dist }
func (t turns) Swap(i, j int)      { t[i], t[j] = t[j], t[i] }
func (t *turns) Push(x any)        { *t = append(*t, x.(turn)) }

func (t *turns) Pop() any {
	last := len(*t) - 1
	x := (*t)[last]
	*t = (*t)[:last]
	return x
}

// queue gives each router that was added, at the least distance at which it was.
type queue struct {
	turns turns
	due   map[int]int // that distance, of the routers that are still to come; a turn at another one is void
}

func newQueue() *queue { return &queue{due: map[int]int{}} }

func (q *queue) add(node, dist int) {
	if due, ok := q.due[node]; ok && due <= dist {
		return
	}
	q.due[node] = dist
	heap.Push(&q.turns, turn{dist, node})
}

// next gives the nearest router and takes it out.
func (q *queue) next() (turn, bool) {
	for len(q.turns) > 0 {
		t := heap.Pop(&q.turns).(turn)
		if due, ok := q.due[t.node]; ok && due == t.dist {
			delete(q.due, t.node)
			return t, true
		}
	}
	return turn{}, false
}
