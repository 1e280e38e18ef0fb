package sub_test

import (
	"slices"
	"strconv"
	"testing"

	"winnower/api"
	"winnower/sub"
)

// wantLaws asks of what stands for what: each type for itself, along two steps as along one, and two for each other only if they are one.
func wantLaws(t *testing.T, x *sub.Types, types []string) {
	t.Helper()
	below := make([][]bool, len(types))
	for i, lower := range types {
		for _, upper := range types {
			below[i] = append(below[i], x.Below(lower, upper))
		}
	}
	for i, lower := range types {
		if !below[i][i] {
			t.Errorf("P9.3: %q doesn't stand for itself", lower)
		}
		for j, middle := range types {
			if i != j && below[i][j] && below[j][i] {
				t.Errorf("P9.3: %q and %q stand for each other", lower, middle)
			}
			for k, upper := range types {
				if below[i][j] && below[j][k] && !below[i][k] {
					t.Errorf("P9.3: %q stands for %q, and that for %q, but not the first for the last", lower, middle, upper)
				}
			}
		}
	}
}

// model tells what types must as plainly as can be: which classes' names are above which.
type model struct {
	classes []api.Class
	above   map[string][]string
}

func modelOf(classes []api.Class) *model {
	m := &model{classes: classes, above: map[string][]string{}}
	for _, c := range classes {
		m.climb(c.Name, c.Name)
	}
	return m
}

// climb puts one, and all above it, to those above another one.
func (m *model) climb(from, name string) {
	if slices.Contains(m.above[from], name) {
		return
	}
	m.above[from] = append(m.above[from], name)
	for _, c := range m.classes {
		if c.Name == name && c.Super != "" {
			m.climb(from, c.Super)
		}
		for _, face := range c.Faces {
			if c.Name == name {
				m.climb(from, face)
			}
		}
	}
}

// types are all.
func (m *model) types() []string {
	types := []string{"int", "null"}
	for _, c := range m.classes {
		types = append(types, c.Name, c.Name+"[]")
	}
	return types
}

func (m *model) below(lower, upper string) bool {
	types := m.types()
	switch {
	case !slices.Contains(types, lower) || !slices.Contains(types, upper):
		return false
	case lower == "null":
		return upper != "int"
	}
	return lower == upper || slices.Contains(m.above[lower], upper)
}

func (m *model) under(upper string) []string {
	var under []string
	for _, c := range m.classes {
		if !c.Face && m.below(c.Name, upper) {
			under = append(under, c.Name)
		}
		if c.Name+"[]" == upper {
			under = append(under, upper)
		}
	}
	return under
}

// dice answers the same numbers at each run.
type dice uint64

func (d *dice) roll(n int) int {
	*d = *d*6364136223846793005 + 1442695040888963407
	return int(uint64(*d)>>33) % n
}

// classes are n that are right, each with others above it that stand ahead of it in some order.
func (d *dice) classes(n int) []api.Class {
	classes := make([]api.Class, n)
	order := make([]int, n)
	for i := range classes {
		classes[i] = api.Class{Name: "T" + strconv.Itoa(i), Face: d.roll(3) == 0}
		at := d.roll(i + 1)
		order[i] = order[at]
		order[at] = i
	}
	for at, i := range order {
		c := &classes[i]
		for range d.roll(4) {
			other := classes[order[d.roll(at+1)]]
			switch {
			case other.Name == c.Name || slices.Contains(c.Faces, other.Name):
			case other.Face:
				c.Faces = append(c.Faces, other.Name)
			case !c.Face:
				c.Super = other.Name
			}
		}
	}
	return classes
}

// wantModel holds classes' types against their model, and these and what stands for what against the laws.
func wantModel(t *testing.T, classes []api.Class) {
	t.Helper()
	m, x := modelOf(classes), made(t, classes...)
	types := m.types()
	for i, c := range classes {
		wantKind(t, x, c.Name, kind{is: true, ref: true, class: true, number: i})
		wantKind(t, x, c.Name+"[]", kind{is: true, ref: true, array: true, elem: c.Name})
	}
	asked := append([]string{"T", "T0[][]", "int[]", "null[]"}, types...)
	for _, lower := range asked {
		for _, upper := range asked {
			wantBelow(t, x, lower, upper, m.below(lower, upper))
		}
		wantUnder(t, x, lower, m.under(lower)...)
	}
	if !x.Is(types...) {
		t.Errorf("P9.1: Is of all types of %v: false", classes)
	}
	wantLaws(t, x, types)
}

func TestAgainstModel(t *testing.T) {
	d := dice(1)
	for _, n := range []int{1, 2, 3, 4, 5, 8, 13} {
		for range 60 {
			wantModel(t, d.classes(n))
		}
	}
	wantModel(t, d.classes(40))
}

// TestEachGraphOfFour: four classes, each an interface or not, above each other in all ways in which a greater number is above a lesser one.
func TestEachGraphOfFour(t *testing.T) {
	for ways := range 1 << 6 {
		for faces := range 1 << 4 {
			if classes, ok := fourOf(ways, faces); ok {
				wantModel(t, classes)
			}
		}
	}
}

// fourOf are four classes; false: they aren't right.
func fourOf(ways, faces int) ([]api.Class, bool) {
	classes := make([]api.Class, 4)
	for i := range classes {
		classes[i] = api.Class{Name: "T" + strconv.Itoa(i), Face: faces>>i&1 == 1}
	}
	for low := range classes {
		for high := low + 1; high < len(classes); high++ {
			taken := ways&1 == 1
			ways >>= 1
			c := &classes[low]
			switch {
			case !taken:
			case classes[high].Face:
				c.Faces = append(c.Faces, classes[high].Name)
			case c.Face || c.Super != "":
				return nil, false
			default:
				c.Super = classes[high].Name
			}
		}
	}
	return classes, true
}
