package hier_test

import (
	"slices"
	"strconv"
	"testing"

	"winnower/api"
	"winnower/hier"
)

// model tells what a table must as plainly as can be: which are right above which, and which above which.
type model struct {
	classes []api.Class
	right   [][]int
	above   [][]bool
}

// find is the first one of a name, if it is of that kind.
func (m *model) find(name string, face bool) int {
	i := slices.IndexFunc(m.classes, func(c api.Class) bool { return c.Name == name })
	if i >= 0 && m.classes[i].Face != face {
		return -1
	}
	return i
}

// rightOf are those right above a class; -1 among them: one of them isn't right.
func (m *model) rightOf(c api.Class) []int {
	var right []int
	if c.Super != "" {
		right = append(right, m.find(c.Super, false))
	}
	for _, name := range c.Faces {
		right = append(right, m.find(name, true))
	}
	return right
}

// alike: has a list something twice?
func alike(list []string) bool {
	sorted := slices.Sorted(slices.Values(list))
	return len(slices.Compact(sorted)) < len(list)
}

// modelOf is a program's, and the number of its first class that isn't right; -1: all are.
func modelOf(p api.Program) (*model, int) {
	m := &model{classes: p.Classes}
	for i, c := range m.classes {
		right := m.rightOf(c)
		ahead := slices.ContainsFunc(m.classes[:i], func(o api.Class) bool { return o.Name == c.Name })
		if ahead || slices.Contains(right, -1) || alike(c.Faces) {
			return m, i
		}
		m.right = append(m.right, right)
	}
	m.close()
	for i := range m.classes {
		if m.above[i][i] {
			return m, i
		}
	}
	return m, -1
}

// close finds what is above each, till nothing is new.
func (m *model) close() {
	for range m.classes {
		m.above = append(m.above, make([]bool, len(m.classes)))
	}
	for again := true; again; {
		again = false
		for i, right := range m.right {
			for _, up := range right {
				for n := range m.classes {
					if (n == up || m.above[up][n]) && !m.above[i][n] {
						m.above[i][n] = true
						again = true
					}
				}
			}
		}
	}
}

// all are some numbers, and all above them.
func (m *model) all(is []int) []int {
	var all []int
	for n := range m.classes {
		if slices.ContainsFunc(is, func(i int) bool { return i == n || i >= 0 && i < len(m.classes) && m.above[i][n] }) {
			all = append(all, n)
		}
	}
	return all
}

// order takes at each step the least number that isn't there yet, behind all that is above it.
func (m *model) order() []int {
	var order []int
	for range m.classes {
		for n := range m.classes {
			if slices.Contains(order, n) {
				continue
			}
			if !slices.ContainsFunc(m.right[n], func(up int) bool { return !slices.Contains(order, up) }) {
				order = append(order, n)
				break
			}
		}
	}
	return order
}

// dice answers the same numbers at each run.
type dice uint64

func (d *dice) roll(n int) int {
	*d = *d*6364136223846793005 + 1442695040888963407
	return int(uint64(*d)>>33) % n
}

// shuffled are all numbers below n in some order.
func (d *dice) shuffled(n int) []int {
	list := make([]int, n)
	for i := range list {
		at := d.roll(i + 1)
		list[i] = list[at]
		list[at] = i
	}
	return list
}

// program is one of n classes. Each has others above it that stand ahead of it in some order, but now and then any others: at most so many in a thousand are wrong.
func (d *dice) program(n, wrong int) api.Program {
	classes := make([]api.Class, n)
	for i := range classes {
		classes[i] = api.Class{Name: strconv.Itoa(i), Face: d.roll(2) == 0}
	}
	order := d.shuffled(n)
	for at, i := range order {
		c := &classes[i]
		for range d.roll(4) {
			other := order[d.roll(at+1)]
			slip := d.roll(1000) < wrong
			if slip {
				other = d.roll(n)
			}
			name := classes[other].Name
			switch {
			case !slip && (other == i || slices.Contains(c.Faces, name)):
			case classes[other].Face:
				c.Faces = append(c.Faces, name)
			case !c.Face:
				c.Super = name
			}
		}
		if d.roll(8000) < wrong {
			c.Super = strconv.Itoa(d.roll(n + 1))
		}
		if d.roll(8000) < wrong {
			c.Faces = append(c.Faces, strconv.Itoa(d.roll(n+1)))
		}
		if d.roll(8000) < wrong {
			c.Name = strconv.Itoa(d.roll(n))
		}
	}
	return placed(classes...)
}

// wantModel holds a program's table, or its fault, against its model; it answers whether there is a table.
func wantModel(t *testing.T, d *dice, p api.Program) bool {
	t.Helper()
	m, wrong := modelOf(p)
	if wrong >= 0 {
		wantFault(t, "a made program", p, wrong)
		return false
	}
	rows := make([]row, len(p.Classes))
	for i, c := range p.Classes {
		super := -1
		if c.Super != "" {
			super = m.right[i][0]
		}
		rows[i] = row{c.Name, c.Face, super, m.right[i], m.all([]int{i})}
	}
	x, fault := hier.New(p)
	if x == nil || fault != (api.Fault{}) {
		t.Fatalf("P8.1: New: %v, %v of %v", x, fault, p)
	}
	wantTable(t, "a made program", x, rows...)
	wantOrder(t, "a made program", x, m.order()...)
	for range 5 {
		is := make([]int, d.roll(5))
		for i := range is {
			is[i] = d.roll(len(p.Classes)+2) - 1
		}
		wantAbove(t, x, is, m.all(is)...)
	}
	return true
}

func TestAgainstModel(t *testing.T) {
	d := dice(1)
	for _, wrong := range []int{0, 20, 200, 800} {
		for _, n := range []int{1, 2, 3, 4, 5, 8, 13, 30, 60, 90} {
			right := 0
			for range 40 {
				if wantModel(t, &d, d.program(n, wrong)) {
					right++
				}
			}
			if wrong == 0 && right < 40 || wrong == 800 && right == 40 {
				t.Errorf("of 40 programs of %d classes with %d wrong are right: %d", n, wrong, right)
			}
		}
	}
}

// TestEachGraphOfThree: three interfaces, above each other in all ways there are.
func TestEachGraphOfThree(t *testing.T) {
	names := []string{"I", "J", "K"}
	d := dice(2)
	for ways := range 1 << 9 {
		classes := []api.Class{face("I"), face("J"), face("K")}
		for bit := range 9 {
			if ways>>bit&1 == 1 {
				classes[bit/3].Faces = append(classes[bit/3].Faces, names[bit%3])
			}
		}
		wantModel(t, &d, placed(classes...))
	}
}
