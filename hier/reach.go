package hier

// reach are those of some numbers that may enter, and all that may of those that next leads to from there. It walks along its own answer, as classes may stand above each other deeper than calls may.
func reach(next func(i int) []int, enter func(i int) bool, from ...int) []int {
	var found []int
	meet := func(is ...int) {
		for _, i := range is {
			if enter(i) {
				found = append(found, i)
			}
		}
	}
	meet(from...)
	for at := 0; at < len(found); at++ {
		meet(next(found[at])...)
	}
	return found
}
