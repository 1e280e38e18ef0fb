package hier

import "winnower/ints"

// span is how many numbers one of package ints' sets has room for.
const span = 1 << 20

// wide is a set of numbers from 0 on, in sets of a span each: a program may be handed in with more classes than one set has room for.
type wide struct {
	sets []*ints.Set
}

// add adds a number: wasn't it there ahead?
func (w *wide) add(n int) bool {
	for len(w.sets) <= n/span {
		w.sets = append(w.sets, ints.Of())
	}
	return w.sets[n/span].Add(n % span)
}

// list are all, rising.
func (w *wide) list() []int {
	var list []int
	for i, set := range w.sets {
		for _, n := range set.List() {
			list = append(list, i*span+n)
		}
	}
	return list
}
