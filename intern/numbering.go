package intern

// numbering gives things of one kind numbers, from 0 on, in the order in which they came. Its list tells what has a number, its map what number a thing has: both hold the same things.
type numbering[T comparable] struct {
	ids  map[T]int
	list []T
}

// number is a thing's number; false: it has none.
func (n *numbering[T]) number(thing T) (int, bool) {
	id, found := n.ids[thing]
	return id, found
}

// enter gives a thing that has no number the next one.
func (n *numbering[T]) enter(thing T) int {
	if n.ids == nil {
		n.ids = map[T]int{}
	}
	id := len(n.list)
	n.ids[thing] = id
	n.list = append(n.list, thing)
	return id
}

// thing is what has a number; false: nothing has it.
func (n *numbering[T]) thing(id int) (T, bool) {
	if id < 0 || id >= len(n.list) {
		var none T
		return none, false
	}
	return n.list[id], true
}

// count is how many have numbers.
func (n *numbering[T]) count() int {
	return len(n.list)
}
