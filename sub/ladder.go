package sub

import (
	"slices"

	"winnower/hier"
)

// ladder has classes by their numbers, and an order in which each is behind those above it.
type ladder struct {
	table *hier.Table
	order []int
}

// name is a class's.
func (l ladder) name(i int) string {
	return l.table.Name(i)
}

// rises: is the upper one the lower one, or above it?
func (l ladder) rises(lower, upper int) bool {
	_, found := slices.BinarySearch(l.table.Above(lower), upper)
	return found
}

// under marks a class, and all below it: as each comes behind those above it, these are marked by then.
func (l ladder) under(top int) []bool {
	marked := make([]bool, l.table.Len())
	mark := func(i int) bool { return marked[i] }
	for _, i := range l.order {
		marked[i] = i == top || slices.ContainsFunc(l.table.Right(i), mark)
	}
	return marked
}
