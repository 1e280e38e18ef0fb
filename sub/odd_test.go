package sub_test

import (
	"testing"

	"winnower/api"
)

// TestAnyNames: a name may be any text.
func TestAnyNames(t *testing.T) {
	x := made(t, class("", "a b"), class("a b", ""), face("void", "[x]"), face("[x]"), class("\xff[", "", "void"))
	for i, name := range []string{"", "a b", "void", "[x]", "\xff["} {
		wantKind(t, x, name, kind{is: true, ref: true, class: true, number: i})
		wantKind(t, x, name+"[]", kind{is: true, ref: true, array: true, elem: name})
		wantUnder(t, x, name+"[]", name+"[]")
		wantBelow(t, x, "null", name, true)
	}
	for _, text := range []string{"a", "[][]", "\xff", "\xff[]", "x"} {
		wantKind(t, x, text, kind{})
	}
	wantBelow(t, x, "", "a b", true)
	wantBelow(t, x, "a b", "", false)
	wantBelow(t, x, "\xff[", "[x]", true)
	wantUnder(t, x, "a b", "", "a b")
	wantUnder(t, x, "[x]", "\xff[")
}

// TestInterfaceWithASuper: no text has one, but classes that are right may.
func TestInterfaceWithASuper(t *testing.T) {
	low := face("I")
	low.Super = "C"
	x := made(t, low, class("C", ""), class("D", "", "I"))
	wantBelow(t, x, "I", "C", true)
	wantBelow(t, x, "D", "C", true)
	wantUnder(t, x, "C", "C", "D")
	wantUnder(t, x, "I", "D")
}

// TestNameOfANumber: int is no class's, whatever class has the name; so no class is int.
func TestNameOfANumber(t *testing.T) {
	x := made(t, class("A", "int"), class("int", "B"), class("B", ""))
	wantKind(t, x, "int", kind{is: true})
	for _, name := range []string{"A", "B", "null"} {
		wantBelow(t, x, name, "int", false)
		wantBelow(t, x, "int", name, false)
	}
	wantBelow(t, x, "A", "B", true)
	wantUnder(t, x, "int")
	wantUnder(t, x, "B", "A", "B")
	wantLaws(t, x, []string{"A", "int", "B", "null", "A[]", "int[]", "B[]"})
}

// TestNameOfNothing: null stands for all but int, and nothing else stands for it, whatever class has the name.
func TestNameOfNothing(t *testing.T) {
	x := made(t, class("A", "null"), class("null", "B"), class("B", ""), face("I"))
	wantKind(t, x, "null", kind{is: true, ref: true})
	for _, name := range []string{"A", "B", "I", "A[]"} {
		wantBelow(t, x, "null", name, true)
		wantBelow(t, x, name, "null", false)
	}
	wantBelow(t, x, "null", "int", false)
	wantUnder(t, x, "null")
	wantUnder(t, x, "I")
	wantUnder(t, x, "B", "A", "B")
	wantLaws(t, x, []string{"A", "int", "B", "I", "null", "A[]", "null[]", "B[]"})
}

// TestNameOfAnArray: a class's array stands for itself alone, whatever class has the name.
func TestNameOfAnArray(t *testing.T) {
	x := made(t, class("A", ""), class("A[]", "B"), class("B", ""), class("C", "A[]"))
	wantKind(t, x, "A[]", kind{is: true, ref: true, array: true, elem: "A"})
	for _, name := range []string{"A", "B", "C"} {
		wantBelow(t, x, "A[]", name, false)
		wantBelow(t, x, name, "A[]", false)
	}
	wantBelow(t, x, "C", "B", true)
	wantUnder(t, x, "A[]", "A[]")
	wantUnder(t, x, "B", "B", "C")
	wantLaws(t, x, []string{"A", "int", "B", "C", "null", "A[]", "A[][]", "B[]"})

	lone := made(t, class("A[]", "B"), class("B", ""))
	wantKind(t, lone, "A[]", kind{is: true, ref: true, class: true})
	wantKind(t, lone, "A[][]", kind{is: true, ref: true, array: true, elem: "A[]"})
	wantKind(t, lone, "A", kind{})
	wantBelow(t, lone, "A[]", "B", true)
	wantUnder(t, lone, "B", "A[]", "B")
}

// TestOnlyHeadsCount: what a class has beside its name and what is above it is nothing to the types.
func TestOnlyHeadsCount(t *testing.T) {
	c := class("A", "")
	c.Fields = []api.Var{{Type: "Nobody", Name: "f"}}
	c.Methods = []api.Method{{Ret: "Nobody[]", Name: "m"}}
	x := made(t, c)
	wantKind(t, x, "A", kind{is: true, ref: true, class: true})
	wantKind(t, x, "Nobody", kind{})
	wantKind(t, x, "Nobody[]", kind{})
}
