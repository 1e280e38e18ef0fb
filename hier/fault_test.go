package hier_test

import (
	"testing"

	"winnower/api"
	"winnower/hier"
	"winnower/parse"
)

// wantFault asks for ErrValid at the place of the class with a number.
func wantFault(t *testing.T, what string, p api.Program, i int) {
	t.Helper()
	at := p.Classes[i].At
	if x, fault := hier.New(p); x != nil || fault != (api.Fault{Err: api.ErrValid, Line: at.Line, Col: at.Col}) {
		t.Errorf("P8.1: %s: %v, %v, want ErrValid at %v", what, x, fault, at)
	}
}

func TestNotRight(t *testing.T) {
	cases := []struct {
		what    string
		classes []api.Class
		at      int
	}{
		{"two classes of one name", []api.Class{class("A", ""), class("A", "")}, 1},
		{"a class and an interface of one name", []api.Class{face("A"), class("B", ""), class("A", "B")}, 2},
		{"two interfaces of one name, far apart", []api.Class{face("I"), class("A", ""), class("B", ""), face("I")}, 3},
		{"three of one name", []api.Class{class("A", ""), class("B", ""), class("A", ""), class("A", "")}, 2},
		{"two without a name", []api.Class{class("", ""), class("", "")}, 1},
		{"a Super that isn't there", []api.Class{class("A", ""), class("B", "C")}, 1},
		{"a Super that is an interface", []api.Class{class("A", "I"), face("I")}, 0},
		{"a Super that is an array of a class", []api.Class{class("A", ""), class("B", "A[]")}, 1},
		{"a Super that is but a piece of a name", []api.Class{class("AA", ""), class("B", "A")}, 1},
		{"a face that isn't there", []api.Class{class("A", ""), class("B", "A", "I")}, 1},
		{"a face that is a class", []api.Class{class("A", ""), class("B", "", "A")}, 1},
		{"a face without a name", []api.Class{class("A", "", "")}, 0},
		{"an interface's face that is a class", []api.Class{class("A", ""), face("I", "A")}, 1},
		{"an interface's face that isn't there", []api.Class{face("I"), face("J", "I", "K")}, 1},
		{"the last face of three", []api.Class{face("I"), face("J"), class("A", "", "I", "J", "K")}, 2},
		{"a face twice", []api.Class{face("I"), class("A", "", "I", "I")}, 1},
		{"a face twice, another one between", []api.Class{class("A", "", "I", "J", "I"), face("I"), face("J")}, 0},
		{"an interface's face twice", []api.Class{face("I"), face("J", "I", "I")}, 1},
		{"a class that is its own Super", []api.Class{class("A", ""), class("B", "B")}, 1},
		{"an interface that is its own face", []api.Class{face("I", "I")}, 0},
		{"a class that is its own face", []api.Class{class("A", "", "A")}, 0},
		{"two above each other", []api.Class{class("A", "B"), class("B", "A")}, 0},
		{"one below two above each other", []api.Class{class("C", "B"), class("A", "B"), class("B", "A")}, 1},
		{"one above one of two above each other", []api.Class{face("K"), face("I", "K", "J"), face("J", "I")}, 1},
		{"one between two rounds", []api.Class{face("M", "I"), face("J", "M", "K"), face("K", "J"), face("I", "I")}, 1},
		{"a long round", []api.Class{class("X", ""), class("D", "A"), class("B", "C"), class("A", "B"), class("C", "D")}, 1},
		{"two rounds", []api.Class{class("X", ""), face("I", "J"), class("A", "B"), class("B", "A"), face("J", "I")}, 1},
		{"a round by a second face", []api.Class{face("H"), face("I", "H", "J"), face("J", "H", "I")}, 1},
		{"a round ahead of a name that isn't there", []api.Class{class("A", "B"), class("B", "A"), class("C", "D")}, 2},
		{"a round ahead of two of one name", []api.Class{class("A", "A"), class("B", ""), class("B", "")}, 2},
		{"a name that isn't there, ahead of two of one name", []api.Class{class("A", "C"), class("B", ""), class("B", "")}, 0},
		{"two of one name, ahead of a name that isn't there", []api.Class{class("B", ""), class("B", ""), class("A", "C")}, 1},
		{"a Super of a name of which the first is an interface", []api.Class{class("A", "B"), face("B"), class("B", "")}, 0},
		{"a Super of a name of which the first is a class", []api.Class{class("A", "B"), class("B", ""), face("B")}, 2},
	}
	for _, c := range cases {
		wantFault(t, c.what, placed(c.classes...), c.at)
	}
}

// TestPlaces: a fault's place is that of the class, whatever that is.
func TestPlaces(t *testing.T) {
	for _, at := range []api.Pos{{}, {Line: 1, Col: 1}, {Line: 20000, Col: 3}, {Line: -5, Col: -6}} {
		p := placed(class("A", ""), class("B", "C"))
		p.Classes[1].At = at
		wantFault(t, "a place", p, 1)
		p = placed(class("A", ""), class("B", "B"))
		p.Classes[1].At = at
		wantFault(t, "a round's place", p, 1)
	}
	p, _ := parse.Parse("class A { }\n  class A { } main { }")
	if x, fault := hier.New(p); x != nil || fault != (api.Fault{Err: api.ErrValid, Line: 2, Col: 3}) {
		t.Errorf("P8.1: %v, %v", x, fault)
	}
}

// TestFaultsAreNothingToTheNext: a fault leaves nothing behind.
func TestFaultsAreNothingToTheNext(t *testing.T) {
	p := placed(class("A", ""), class("A", ""))
	wantFault(t, "two of one name", p, 1)
	p.Classes[1].Name = "B"
	wantTable(t, "mended", made(t, p), row{"A", false, -1, nil, []int{0}}, row{"B", false, -1, nil, []int{1}})
	wantFault(t, "two of one name again", placed(class("A", ""), class("A", "")), 1)
}
