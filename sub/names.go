package sub

import "strings"

// How types are written that are no class's name.
const (
	number   = "int"
	nothing  = "null"
	brackets = "[]" // behind a class's name
)

// names tell which texts are types of classes, and of arrays. A program that is made by hand may give a class a name that is another type's: such a text is that other type alone, so that no text is two types.
type names struct {
	ladder
}

// elem is the number of the class that an array has; false: it is none.
func (n names) elem(t string) (int, bool) {
	of, ok := strings.CutSuffix(t, brackets)
	if !ok {
		return 0, false
	}
	return n.table.Index(of)
}

// class is a class's number; false: it isn't one.
func (n names) class(t string) (int, bool) {
	if _, ok := n.elem(t); ok || t == number || t == nothing {
		return 0, false
	}
	return n.table.Index(t)
}

// classes are the names of those classes, but interfaces, that are marked.
func (n names) classes(marked []bool) []string {
	var list []string
	for i, mark := range marked {
		name := n.name(i)
		if _, ok := n.class(name); ok && mark && !n.table.Face(i) {
			list = append(list, name)
		}
	}
	return list
}
