package table

import (
	"slices"

	"wayfinder/rising"
	"wayfinder/wire"
)

// linkSet is a set of interfaces: linkSize bytes for each, rising. As a text it is equal to another one when they have the same interfaces, and rows may share it, as nothing can change it.
type linkSet string

// nowhere is the set that has none.
const nowhere linkSet = ""

// linkSize is how many bytes the number of an interface takes, maxLink the greatest such number.
const (
	linkSize = 2
	maxLink  = 1<<(8*linkSize) - 1
)

// areLinks says whether all numbers may name interfaces.
func areLinks(l []int) bool {
	return !slices.ContainsFunc(l, func(n int) bool { return n < 0 || n > maxLink })
}

// setOf gives the set of a list for which areLinks holds.
func setOf(l []int) linkSet {
	var numbers rising.Set
	numbers.Add(l...)
	var b []byte
	for _, n := range numbers.List() {
		b = wire.Put(b, linkSize, n)
	}
	return linkSet(b)
}

// list gives the interfaces, rising, in new memory.
func (s linkSet) list() []int {
	out := make([]int, len(s)/linkSize)
	for i := range out {
		out[i] = wire.Number([]byte(s[i*linkSize : (i+1)*linkSize]))
	}
	return out
}
