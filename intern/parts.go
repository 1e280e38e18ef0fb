package intern

import (
	"slices"
	"strings"

	"winnower/api"
)

// tuple is a tuple that may be a map's key. The numbers behind its last one are 0, so that like tuples are equal; its size tells it from one that ends with 0.
type tuple struct {
	size    int
	numbers [api.MaxTuple]int
}

// tupleOf is the tuple of numbers; false: they are too many.
func tupleOf(ns []int) (tuple, bool) {
	if len(ns) > api.MaxTuple {
		return tuple{}, false
	}
	t := tuple{size: len(ns)}
	copy(t.numbers[:], ns)
	return t, true
}

// all are the tuple's numbers, in a list of their own.
func (t tuple) all() []int {
	return slices.Clone(t.numbers[:t.size])
}

// tuples are the tuples that have numbers.
type tuples struct {
	numbering[tuple]
}

// tupleNumber is a tuple's number, a new one if it has none; -1: it is too long.
func (x *tuples) tupleNumber(ns []int) int {
	t, fits := tupleOf(ns)
	if !fits {
		return -1
	}
	if id, found := x.number(t); found {
		return id
	}
	return x.enter(t)
}

// findTuple is a tuple's number; false: it has none.
func (x *tuples) findTuple(ns []int) (int, bool) {
	t, fits := tupleOf(ns)
	if !fits {
		return 0, false
	}
	return x.number(t)
}

// texts are the texts that have numbers.
type texts struct {
	numbering[string]
}

// textNumber is a text's number, a new one if it has none. A new text is copied: a word cut from a long text would keep all of it.
func (x *texts) textNumber(s string) int {
	if id, found := x.number(s); found {
		return id
	}
	return x.enter(strings.Clone(s))
}

// allTexts are all, in a list of their own.
func (x *texts) allTexts() []string {
	return slices.Clone(x.list)
}
