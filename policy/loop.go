package policy

import "slices"

// firstOnLoop gives the first number from which calls lead back to it, or -1.
func firstOnLoop(calls [][]int) int {
	count := len(calls)
	w := walk{calls: calls, next: make([]int, count), since: make([]int, count), first: count}
	for i := range calls {
		if w.since[i] == 0 {
			w.from(i)
		}
	}
	if w.first == count {
		return -1
	}
	return w.first
}

// walk goes along each call once, and gathers in groups the numbers that lead to each other. Its path is a list, and not a function that calls itself, since the row of policies of which each calls the next may be of any length.
type walk struct {
	calls [][]int
	next  []int // which of its calls is gone along next
	since []int // when it was come to, counted from 1 (0: not yet); beyond all counts once its group is gathered
	count int   // how many were come to
	path  []int // from where the walk began to where it is
	open  []int // come to, and not yet gathered
	heads []int // those of open that begin a group, as far as is known
	first int   // the first number that is on a loop
}

func (w *walk) from(i int) {
	w.enter(i)
	for len(w.path) > 0 {
		here := last(w.path)
		if w.next[here] == len(w.calls[here]) {
			w.leave(here)
			continue
		}
		to := w.calls[here][w.next[here]]
		w.next[here]++
		if w.since[to] == 0 {
			w.enter(to)
			continue
		}
		// All that were come to since then and are open lead here, and from here back to it: they are of its group.
		for w.since[last(w.heads)] > w.since[to] {
			w.heads = w.heads[:len(w.heads)-1]
		}
	}
}

func (w *walk) enter(i int) {
	w.count++
	w.since[i] = w.count
	w.path = append(w.path, i)
	w.open = append(w.open, i)
	w.heads = append(w.heads, i)
}

func (w *walk) leave(i int) {
	w.path = w.path[:len(w.path)-1]
	if last(w.heads) != i {
		return
	}
	w.heads = w.heads[:len(w.heads)-1]
	from := len(w.open) - 1
	for w.open[from] != i {
		from--
	}
	w.gather(w.open[from:])
	w.open = w.open[:from]
}

func (w *walk) gather(group []int) {
	for _, i := range group {
		w.since[i] = len(w.calls) + 1
		if len(group) > 1 || slices.Contains(w.calls[i], i) {
			w.first = min(w.first, i)
		}
	}
}

func last(list []int) int { return list[len(list)-1] }
