package rising_test

import (
	"maps"
	"math"
	"math/rand"
	"slices"
	"testing"

	"wayfinder/rising"
)

func TestList(t *testing.T) {
	r := rand.New(rand.NewSource(1))
	for range 500 {
		var s rising.Set
		is := map[int]int{}
		for range r.Intn(60) {
			var l []int
			for range r.Intn(9) {
				l = append(l, r.Intn(40)-20)
			}
			kept := slices.Clone(l)
			s.Add(l...)
			if !slices.Equal(l, kept) {
				t.Fatalf("what was handed in was %v and is %v", kept, l)
			}
			for _, n := range l {
				is[n]++
			}
			if r.Intn(8) == 0 {
				clear(s.List())
			}
		}
		if want := slices.Sorted(maps.Keys(is)); !slices.Equal(s.List(), want) {
			t.Fatalf("%v, must be %v", s.List(), want)
		}
	}
}

func TestListOfEdges(t *testing.T) {
	var s rising.Set
	if l := s.List(); len(l) != 0 {
		t.Errorf("%v, must be empty", l)
	}
	s.Add()
	s.Add(math.MaxInt, 0, math.MinInt, 0, math.MaxInt)
	if l := s.List(); !slices.Equal(l, []int{math.MinInt, 0, math.MaxInt}) {
		t.Errorf("%v", l)
	}
}
