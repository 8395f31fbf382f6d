package table

import (
	"slices"

	"wayfinder/api"
	"wayfinder/trie"
)

// settle works out anew what all sides give, and answers the writes by which the memory comes to that.
func (t *Table) settle() []api.Write {
	t.base = joined(t.ways, t.fixed)
	before := t.rows
	t.rows = joined(t.base, t.offers)
	t.numbers = numbersOf(t.rows, t.numbers)
	return t.writesSince(before)
}

// numbersOf gives a number to each set that rows have: the one that it had before, or a new one.
func numbersOf(rows *trie.Trie[row], before map[linkSet]int) map[linkSet]int {
	numbers, spare := map[linkSet]int{}, unused(before)
	for _, r := range rows.All() {
		if _, has := numbers[r.over]; has {
			continue
		}
		n, had := before[r.over]
		if !had {
			n = spare()
		}
		numbers[r.over] = n
	}
	return numbers
}

// unused gives what answers at each call the next number, from 1 on, that no set has.
func unused(numbers map[linkSet]int) func() int {
	taken := map[int]struct{}{}
	for _, n := range numbers {
		taken[n] = struct{}{}
	}
	last := 0
	return func() int {
		for {
			last++
			if _, is := taken[last]; !is {
				return last
			}
		}
	}
}

// writesSince lets each prefix lead to the number of its set, as those of before do already.
//
// An address whose longer prefix is new must not be led over a shorter one that is new too, nor one whose longer prefix goes over a shorter one that goes too: so the longer ones are set first, and dropped last.
func (t *Table) writesSince(before *trie.Trie[row]) []api.Write {
	var out []api.Write
	// A prefix of rows is valid, and there are fewer sets, ahead of a call and behind it, than the greatest number of a way on, so that the forwarding table refuses nothing.
	for _, at := range t.turned(before) {
		r, _ := t.rows.Get(at)
		writes, _ := t.forward.Set(at, t.numbers[r.over])
		out = append(out, writes...)
	}
	for _, at := range t.gone(before) {
		writes, _ := t.forward.Drop(at)
		out = append(out, writes...)
	}
	return out
}

// turned gives the prefixes that lead elsewhere than before, the longest first. (Two sets never have one number, not even one ahead of a call and the other behind it: it is enough to look at the sets.)
func (t *Table) turned(before *trie.Trie[row]) []api.Prefix {
	var out []api.Prefix
	for at, r := range t.rows.All() {
		if was, had := before.Get(at); !had || was.over != r.over {
			out = append(out, at)
		}
	}
	slices.SortStableFunc(out, func(p, q api.Prefix) int { return q.Len - p.Len })
	return out
}

// gone gives the prefixes that have no row any more, the shortest first.
func (t *Table) gone(before *trie.Trie[row]) []api.Prefix {
	var out []api.Prefix
	for at := range before.All() {
		if _, has := t.rows.Get(at); !has {
			out = append(out, at)
		}
	}
	slices.SortStableFunc(out, func(p, q api.Prefix) int { return p.Len - q.Len })
	return out
}
