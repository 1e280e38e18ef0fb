package member

import (
	"slices"

	"winnower/api"
)

const (
	null = "null" // a type, but no variable's
	void = "void" // what a method answers that answers nothing
)

// wrong is the first spot where members aren't right; false: all are.
func (m *Members) wrong() (spot, bool) {
	var wrong spots
	for i := range m.owns {
		m.alone(i, &wrong)
	}
	d := m.down()
	for part := range parts {
		for name, classes := range m.tellers(part) {
			d.together(part, name, classes, &wrong)
		}
	}
	return wrong.first, wrong.some
}

// alone finds what isn't right of a class whatever the others tell.
func (m *Members) alone(class int, wrong *spots) {
	face := m.table.Face(class)
	for part, t := range m.owns[class] {
		for at, x := range t.members {
			if t.firsts[x.Name] != at || !m.typed(x, part) || part == methods && face && !x.Bare {
				wrong.put(class, part, at)
			}
		}
	}
	if face && m.table.Super(class) >= 0 {
		wrong.put(class, parts, 0)
	}
}

// typed: are a member's types such as it may have?
func (m *Members) typed(x api.Member, part int) bool {
	types := x.Params
	if part != methods || x.Type != void {
		types = append(slices.Clone(types), x.Type)
	}
	return m.types.Is(types...) && !slices.Contains(types, null)
}

// tellers are, of each name in a part, the classes that tell one, rising.
func (m *Members) tellers(part int) map[string][]int {
	tellers := map[string][]int{}
	for i := range m.owns {
		for name := range m.owns[i][part].firsts {
			tellers[name] = append(tellers[name], i)
		}
	}
	return tellers
}
