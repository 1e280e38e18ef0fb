package hier

import (
	"strings"

	"winnower/api"
)

// firsts are the numbers of names: each one's is that of the first class that has it. Names are copied: a piece of a program's text would keep all of it.
func firsts(classes []api.Class) map[string]int {
	numbers := make(map[string]int, len(classes))
	for i, c := range classes {
		if _, taken := numbers[c.Name]; !taken {
			numbers[strings.Clone(c.Name)] = i
		}
	}
	return numbers
}

// fill takes all classes in: the number of the first one of which the names aren't right; -1: all of them are.
func (t *Table) fill(classes []api.Class) int {
	find := func(name string, face bool) (int, bool) {
		i, found := t.numbers[name]
		return i, found && classes[i].Face == face
	}
	t.entries = make([]entry, 0, len(classes))
	for i, c := range classes {
		e, ok := entryOf(c, find)
		if !ok || t.numbers[c.Name] != i {
			return i
		}
		t.entries = append(t.entries, e)
	}
	return -1
}

// entryOf is a class's, with what finds classes, or interfaces, by their names; false: the names above it aren't right.
func entryOf(c api.Class, find func(name string, face bool) (int, bool)) (entry, bool) {
	e := entry{name: strings.Clone(c.Name), face: c.Face, super: -1}
	if c.Super != "" {
		super, ok := find(c.Super, false)
		if !ok {
			return entry{}, false
		}
		e.super = super
		e.right = append(e.right, super)
	}
	var faces wide
	for _, name := range c.Faces {
		face, ok := find(name, true)
		if !ok || !faces.add(face) {
			return entry{}, false
		}
		e.right = append(e.right, face)
	}
	return e, true
}

// faultAt is the fault of a class that isn't right.
func faultAt(c api.Class) api.Fault {
	return api.Fault{Err: api.ErrValid, Line: c.At.Line, Col: c.At.Col}
}
