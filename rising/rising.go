// Package rising: lists of numbers that rise, each number once.
package rising

import "slices"

// fewest is how many numbers are gathered at least ahead of putting them in order.
const fewest = 16

// Set gathers numbers. The zero value has none.
type Set struct {
	list  []int
	clean int // the first so many rise
}

// Add takes numbers in, in whatever order and however often.
func (s *Set) Add(numbers ...int) {
	s.list = append(s.list, numbers...)
	// To wait until they have doubled keeps the cost small for each number, and the room within twice what is needed.
	if len(s.list) > 2*s.clean+fewest {
		s.tidy()
	}
}

// List gives the numbers, in new memory.
func (s *Set) List() []int {
	s.tidy()
	return slices.Clone(s.list)
}

func (s *Set) tidy() {
	slices.Sort(s.list)
	s.list = slices.Compact(s.list)
	s.clean = len(s.list)
}
