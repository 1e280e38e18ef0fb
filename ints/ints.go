// Package ints is layer 1: see shared/doc/01-ints.md.
package ints

import "slices"

// limit is the first number that may be in no set.
const limit = 1 << 20

// Set has numbers, in rising rows of bits. No row is empty: so sets with the same numbers have the same rows.
type Set struct {
	rows  []row
	count int
}

// Of is the set of those of the numbers that may be in one.
func Of(ns ...int) *Set {
	s := &Set{}
	for _, n := range ns {
		s.Add(n)
	}
	return s
}

// Add adds a number: is it there now, and wasn't ahead?
func (s *Set) Add(n int) bool {
	if s == nil || !mayHold(n) || s.Has(n) {
		return false
	}
	at := n / rowBits
	i, found := s.find(at)
	if !found {
		s.rows = slices.Insert(s.rows, i, row{at: at})
	}
	word, bit := bitOf(n)
	s.rows[i].bits[word] |= bit
	s.count++
	return true
}

// Has: is a number there?
func (s *Set) Has(n int) bool {
	if !mayHold(n) {
		return false
	}
	word, bit := bitOf(n)
	return s.rowAt(n / rowBits).bits[word]&bit != 0
}

// Len is how many there are.
func (s *Set) Len() int {
	if s == nil {
		return 0
	}
	return s.count
}

// List are all, rising.
func (s *Set) List() []int {
	list := make([]int, 0, s.Len())
	for _, r := range s.all() {
		list = r.appendTo(list)
	}
	return list
}

// Union is a new set of those in one or both.
func (s *Set) Union(t *Set) *Set {
	both := Of()
	both.take(s)
	both.take(t)
	return both
}

// Minus is a new set of those that aren't in the other one.
func (s *Set) Minus(t *Set) *Set {
	left := Of()
	for _, r := range s.all() {
		r = r.without(t.rowAt(r.at))
		if count := r.count(); count > 0 {
			left.rows = append(left.rows, r)
			left.count += count
		}
	}
	return left
}

// Merge adds another one's: those that are new, rising.
func (s *Set) Merge(t *Set) []int {
	if s == nil {
		return nil
	}
	return s.take(t).List()
}

// Same: have both the same?
func (s *Set) Same(t *Set) bool {
	return slices.Equal(s.all(), t.all())
}

// Meets: have they one together?
func (s *Set) Meets(t *Set) bool {
	for _, r := range s.all() {
		if r.meets(t.rowAt(r.at)) {
			return true
		}
	}
	return false
}

// mayHold: may a set have the number?
func mayHold(n int) bool {
	return n >= 0 && n < limit
}

// all are the set's own rows, for reading alone; a nil set has none.
func (s *Set) all() []row {
	if s == nil {
		return nil
	}
	return s.rows
}

// find is where the row of a place stands, or would stand.
func (s *Set) find(at int) (int, bool) {
	return slices.BinarySearchFunc(s.all(), at, func(r row, at int) int { return r.at - at })
}

// rowAt is the row of a place; an empty one, if the set has none there.
func (s *Set) rowAt(at int) row {
	i, found := s.find(at)
	if !found {
		return row{at: at}
	}
	return s.rows[i]
}

// take adds another set's numbers, and answers the set of those that are new.
func (s *Set) take(t *Set) *Set {
	fresh := t.Minus(s)
	s.join(fresh.rows)
	s.count += fresh.count
	return fresh
}

// join lays rows among the set's own, from the last one back, so that each row moves at most once.
func (s *Set) join(more []row) {
	own, next := len(s.rows)-1, len(more)-1
	s.rows = append(s.rows, make([]row, s.lacks(more))...)
	for to := len(s.rows) - 1; next >= 0; to-- {
		switch {
		case own < 0 || s.rows[own].at < more[next].at:
			s.rows[to] = more[next]
			next--
		case s.rows[own].at > more[next].at:
			s.rows[to] = s.rows[own]
			own--
		default:
			s.rows[to] = s.rows[own]
			s.rows[to].or(more[next])
			own--
			next--
		}
	}
}

// lacks is how many of the rows stand at places where the set has none.
func (s *Set) lacks(more []row) int {
	count := 0
	for _, r := range more {
		if _, found := s.find(r.at); !found {
			count++
		}
	}
	return count
}
