package member

import (
	"cmp"
	"slices"
)

// down goes from classes to those below them. What is told of one name is handed down that way: looking up from each class by itself would take too long where ways up are long.
type down struct {
	*Members
	below [][]int // those right below each
	rank  []int   // where each comes in an order in which it is behind those above it
}

// down is the way through all classes.
func (m *Members) down() down {
	d := down{Members: m, below: make([][]int, len(m.owns)), rank: make([]int, len(m.owns))}
	for at, i := range m.table.Order() {
		d.rank[i] = at
		for _, above := range m.table.Right(i) {
			d.below[above] = append(d.below[above], i)
		}
	}
	return d
}

// from are classes and all below them, each behind those above it.
func (d down) from(classes []int) []int {
	var list []int
	met := map[int]struct{}{}
	meet := func(is []int) {
		for _, i := range is {
			if _, again := met[i]; !again {
				met[i] = struct{}{}
				list = append(list, i)
			}
		}
	}
	meet(classes)
	for at := 0; at < len(list); at++ {
		meet(d.below[list[at]])
	}
	slices.SortFunc(list, func(i, j int) int { return cmp.Compare(d.rank[i], d.rank[j]) })
	return list
}

// together finds what isn't right of members of one part and name beside each other; classes are those that tell one. What only one tells goes with all others, unless it is Bare.
func (d down) together(part int, name string, classes []int, wrong *spots) {
	lone := len(classes) == 1 && !d.owns[classes[0]][part].first(name).Bare
	switch {
	case lone:
	case part == methods:
		d.checkMethods(name, classes, wrong)
	default:
		d.checkVars(part, name, classes, wrong)
	}
}

// checkVars finds the fields, or statics, of a name that a Super has, too.
func (d down) checkVars(part int, name string, classes []int, wrong *spots) {
	having := map[int]struct{}{}
	for _, i := range d.from(classes) {
		_, above := having[d.table.Super(i)]
		at, own := d.owns[i][part].firsts[name]
		if own && above {
			wrong.put(i, part, at)
		}
		if own || above {
			having[i] = struct{}{}
		}
	}
}

// checkMethods finds the methods of a name that don't fit those above them, and the classes without a body for a Bare one.
func (d down) checkMethods(name string, classes []int, wrong *spots) {
	views := map[int]view{}
	for _, i := range d.from(classes) {
		v := view{method: views[d.table.Super(i)].method}
		for _, above := range d.table.Right(i) {
			v.all = v.all.and(views[above].all)
			v.bare = v.bare.and(views[above].bare)
		}
		if x := d.owns[i][methods].first(name); x != nil {
			if v.clashes(x) {
				wrong.put(i, methods, d.owns[i][methods].firsts[name])
			}
			v.add(x)
		}
		if !d.table.Face(i) && v.lacks() {
			wrong.put(i, parts, 0)
		}
		views[i] = v
	}
}
