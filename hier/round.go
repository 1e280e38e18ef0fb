package hier

import "slices"

// round is the first number that is above itself; -1: there is none. Those that are above each other make a group. Taken from the last one that climbed on, each group is what is left of all below one of it (Kosaraju's way): a search from each number by itself would take too long where ways up are long.
func (t *Table) round() int {
	below := t.below()
	down := func(i int) []int { return below[i] }
	var taken wide
	first := -1
	climbed := t.climbed()
	for at := len(climbed) - 1; at >= 0; at-- {
		group := reach(down, taken.add, climbed[at])
		if len(group) == 0 || len(group) == 1 && !t.aboveItself(group[0]) {
			continue
		}
		if least := slices.Min(group); first < 0 || least < first {
			first = least
		}
	}
	return first
}

// aboveItself: is one right above itself?
func (t *Table) aboveItself(i int) bool {
	return slices.Contains(t.entry(i).right, i)
}

// climbed are all numbers, each put down when all ways up from it are done.
func (t *Table) climbed() []int {
	var seen wide
	var path, done []int
	tried := make([]int, t.Len()) // how many right above each have been tried
	enter := func(i int) {
		if seen.add(i) {
			path = append(path, i)
		}
	}
	for i := range t.Len() {
		enter(i)
		for len(path) > 0 {
			last := path[len(path)-1]
			if right := t.entry(last).right; tried[last] < len(right) {
				tried[last]++
				enter(right[tried[last]-1])
				continue
			}
			path = path[:len(path)-1]
			done = append(done, last)
		}
	}
	return done
}
