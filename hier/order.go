package hier

import (
	"container/heap"
	"sort"
)

// ready are numbers that may come next, as a heap: the least one is at hand.
type ready struct {
	sort.IntSlice
}

// Push puts a number at the end, for package heap.
func (r *ready) Push(n any) {
	r.IntSlice = append(r.IntSlice, n.(int))
}

// Pop takes the last number, for package heap.
func (r *ready) Pop() any {
	last := r.Len() - 1
	n := r.IntSlice[last]
	r.IntSlice = r.IntSlice[:last]
	return n
}

// Order are all, each behind those above it.
func (t *Table) Order() []int {
	below := t.below()
	waits := make([]int, t.Len()) // how many right above each haven't come yet
	next := &ready{}
	for i := range waits {
		waits[i] = len(t.entry(i).right)
		if waits[i] == 0 {
			heap.Push(next, i)
		}
	}
	order := make([]int, 0, t.Len())
	for next.Len() > 0 {
		i := heap.Pop(next).(int)
		order = append(order, i)
		for _, under := range below[i] {
			waits[under]--
			if waits[under] == 0 {
				heap.Push(next, under)
			}
		}
	}
	return order
}
