package member

import (
	"slices"

	"winnower/api"
)

// has: is there a class, or an interface, of a number?
func (m *Members) has(i int) bool {
	return m != nil && i >= 0 && i < len(m.owns)
}

// climb is what a class tells itself of a part and a name, or else its Super, and so on up; nil: none does.
func (m *Members) climb(class, part int, name string) *api.Member {
	for i := class; m.has(i); i = m.table.Super(i) {
		if x := m.owns[i][part].first(name); x != nil {
			return x
		}
	}
	return nil
}

// method is a class's, or an interface's; nil: it has none.
func (m *Members) method(class int, name string) *api.Member {
	if x := m.climb(class, methods, name); x != nil {
		return x
	}
	return m.lent(class, name)
}

// lent is the method that an interface has of its Faces; nil: of none. Each Face goes with all above it ahead of the next one. None is asked twice, as in a net of interfaces there may be more ways up than could ever be gone.
func (m *Members) lent(face int, name string) *api.Member {
	open := m.faces(face)
	asked := map[int]struct{}{}
	for len(open) > 0 {
		i := open[len(open)-1]
		open = open[:len(open)-1]
		if _, again := asked[i]; again {
			continue
		}
		asked[i] = struct{}{}
		if x := m.owns[i][methods].first(name); x != nil {
			return x
		}
		open = append(open, m.faces(i)...)
	}
	return nil
}

// faces are those of an interface, the last one first; a class has its methods of none.
func (m *Members) faces(i int) []int {
	if !m.has(i) || !m.table.Face(i) {
		return nil
	}
	faces := m.table.Right(i)
	slices.Reverse(faces)
	return faces
}
