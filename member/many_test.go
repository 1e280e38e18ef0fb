package member_test

import (
	"slices"
	"strconv"
	"testing"

	"winnower/api"
)

// chain are classes that each have the next one above them, by how far its number is off.
func chain(n, step int) []api.Class {
	classes := make([]api.Class, n)
	for i := range classes {
		classes[i].Name = strconv.Itoa(i)
		if next := i + step; next >= 0 && next < n {
			classes[i].Super = strconv.Itoa(next)
		}
	}
	return classes
}

// TestLongWaysUp: each class tells something of its own, and all of them a method of one name that an interface at the top wants.
func TestLongWaysUp(t *testing.T) {
	const n = 1 << 16
	for _, step := range []int{1, -1} {
		classes := append(chain(n, step), with(face("I"), bare(method("void", "m"))))
		top, low := n-1, 0
		if step < 0 {
			top, low = low, top
		}
		for i := range n {
			classes[i].Fields = []api.Var{variable("int", "f"+strconv.Itoa(i))}
			classes[i].Statics = []api.Var{variable("int", "s"+strconv.Itoa(i))}
			classes[i].Methods = []api.Method{method("void", "m"), method("void", "m"+strconv.Itoa(i))}
		}
		classes[top].Faces = []string{"I"}
		m := wantRight(t, "a long way up", placed(slices.Clone(classes)...))
		name := strconv.Itoa(top)
		wantMember(t, "Field", m.Field, low, "f"+name, api.Member{Class: top, Name: "f" + name, Type: "int"})
		wantMember(t, "Static", m.Static, low, "s"+name, api.Member{Class: top, Name: "s" + name, Type: "int", Static: true})
		wantMember(t, "Method", m.Method, low, "m"+name, api.Member{Class: top, Name: "m" + name, Type: "void"})
		wantDispatch(t, m, low, "m"+name, top)
		wantDispatch(t, m, low, "m", low)
		wantNone(t, "Field", m.Field, low, "f")
		if fields := m.Fields(low); len(fields) != n || fields[0].Class != top || fields[n-1].Class != low {
			t.Errorf("P10.2: Fields(%d): %d", low, len(fields))
		}
		classes[low].Methods = append(classes[low].Methods, method("int", "m"+name))
		wantFault(t, "a clash a long way up", placed(classes...), api.Pos{Line: 300 + low, Col: 3})
	}
}

// TestOneNameForMany: whatever names are told by many, classes beside each other have nothing to do with each other.
func TestOneNameForMany(t *testing.T) {
	const n = 1 << 16
	classes := chain(n, n)
	for i := range classes {
		classes[i].Fields = []api.Var{variable("int", "f"), variable("int", "g"+strconv.Itoa(i/2))}
		classes[i].Methods = []api.Method{method([]string{"int", "void"}[i%2], "m"), method("void", "m"+strconv.Itoa(i/2))}
	}
	m := wantRight(t, "one name for many", placed(classes...))
	for _, i := range []int{0, 1, n / 2, n - 1} {
		wantMember(t, "Field", m.Field, i, "f", api.Member{Class: i, Name: "f", Type: "int"})
		wantDispatch(t, m, i, "m", i)
	}
}

// TestLongLists: a class may tell more than a text may.
func TestLongLists(t *testing.T) {
	const n = 1 << 17
	a := class("A", "")
	for i := range n {
		name := strconv.Itoa(i)
		a.Fields = append(a.Fields, variable("A", name))
		a.Statics = append(a.Statics, variable("A[]", name))
		a.Methods = append(a.Methods, method("int", name))
	}
	last := strconv.Itoa(n - 1)
	m := wantRight(t, "long lists", placed(a, class("B", "A")))
	wantMember(t, "Field", m.Field, 1, last, api.Member{Name: last, Type: "A"})
	wantMember(t, "Static", m.Static, 1, last, api.Member{Name: last, Type: "A[]", Static: true})
	wantDispatch(t, m, 1, last, 0)
	if got := len(m.Fields(1)); got != n {
		t.Errorf("P10.2: Fields(1): %d", got)
	}
	a.Methods = append(a.Methods, method("int", last))
	wantFault(t, "the last one again", placed(a), api.Pos{Line: 300, Col: n + 1})
}

// TestNetOfInterfaces: each of 60 interfaces has all behind it as Faces: there are 2^58 ways up to the last one.
func TestNetOfInterfaces(t *testing.T) {
	const n = 60
	classes := make([]api.Class, n)
	for i := range classes {
		classes[i] = face(strconv.Itoa(i))
		for j := i + 1; j < n; j++ {
			classes[i].Faces = append(classes[i].Faces, strconv.Itoa(j))
		}
	}
	classes[n-1] = with(classes[n-1], bare(method("int", "m")))
	m := wantRight(t, "a net", placed(classes...))
	for i := range classes {
		wantMember(t, "Method", m.Method, i, "m", api.Member{Class: n - 1, Name: "m", Type: "int", Bare: true})
		wantNone(t, "Method", m.Method, i, "n")
	}
	classes[0] = with(classes[0], bare(method("void", "m")))
	wantFault(t, "a net", placed(classes...), api.Pos{Line: 300, Col: 1})
	classes[0] = class("0", "", classes[0].Faces...)
	wantFault(t, "a class below a net", placed(classes...), place(0))
}

// TestLongWayOfInterfaces: the first Face is a long way up, the last one near.
func TestLongWayOfInterfaces(t *testing.T) {
	const n = 1 << 16
	classes := make([]api.Class, n)
	for i := range classes {
		classes[i] = face(strconv.Itoa(i), strconv.Itoa(i+1), "last")
	}
	classes[n-1] = with(face(strconv.Itoa(n-1)), bare(method("int", "m")))
	last := with(face("last"), bare(method("void", "m")), bare(method("void", "n")))
	m := wantRight(t, "a long way", placed(append(classes, last)...))
	wantMember(t, "Method", m.Method, 0, "m", api.Member{Class: n - 1, Name: "m", Type: "int", Bare: true})
	wantMember(t, "Method", m.Method, 0, "n", api.Member{Class: n, Name: "n", Type: "void", Bare: true})
	wantNone(t, "Method", m.Method, 0, "k")
}
