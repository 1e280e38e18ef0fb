package check_test

import (
	"math"
	"testing"

	"winnower/api"
)

// mainOf is a program of a text's classes and of a main that is made by hand: its locals by types and names in turn.
func mainOf(t *testing.T, classes string, locals []string, body ...api.Stmt) api.Program {
	t.Helper()
	p := program(t, classes+" main { }")
	for i := 0; i < len(locals); i += 2 {
		p.Main.Locals = append(p.Main.Locals, api.Var{Type: locals[i], Name: locals[i+1], At: api.Pos{Line: 500, Col: i}})
	}
	for i := range body {
		body[i].At = place(i)
	}
	p.Main.Body = body
	return p
}

// place is where a statement that is made by hand stands.
func place(i int) api.Pos {
	return api.Pos{Line: 100, Col: 1 + i}
}

// TestOtherDos: a statement that does nothing known doesn't fit.
func TestOtherDos(t *testing.T) {
	for _, do := range []int{-1, -2, math.MinInt, api.InJump, api.InLess, 25, 26, 1 << 16, 1 << 32, 1<<32 + 1, math.MaxInt} {
		other := api.Stmt{Do: do, X: "i", Y: "i", Z: "i", T: "A", F: "f"}
		wantFault(t, "another Do", mainOf(t, "class A { field int f; }", []string{"int", "i"}, api.Stmt{Do: api.DoInput, X: "i"}, other, other), place(1))
		nest := api.Stmt{Do: api.DoWhile, Y: "i", Z: "i", Body: []api.Stmt{{Do: do, At: place(9)}}}
		wantFault(t, "another Do in a block", mainOf(t, "", []string{"int", "i"}, nest), place(9))
		other.Body = []api.Stmt{{Do: api.DoReturn, At: place(9)}}
		wantFault(t, "another Do with a block", mainOf(t, "class A { }", []string{"int", "i"}, other), place(0))
	}
}

// TestFieldsThatDoNotCount: what a statement's form doesn't have is nothing to it.
func TestFieldsThatDoNotCount(t *testing.T) {
	const classes = "class A { field A f; static A s; method A m(int i) { } static method void u() { } }"
	locals := []string{"A", "a", "A[]", "l", "int", "i"}
	wrong := []api.Stmt{{Do: -1, X: "?"}}
	full := func(s api.Stmt) api.Stmt {
		for _, text := range []*string{&s.X, &s.Y, &s.Z, &s.T, &s.F} {
			if *text == "" {
				*text = "?"
			}
		}
		if s.Args == nil {
			s.Args = []string{"?", "i", ""}
		}
		s.N = -7
		if s.Do != api.DoTry && s.Do != api.DoIf {
			s.Other = wrong
		}
		if s.Do != api.DoTry && s.Do != api.DoIf && s.Do != api.DoWhile {
			s.Body = wrong
		}
		return s
	}
	for _, s := range []api.Stmt{
		{Do: api.DoNew, X: "a", T: "A"}, {Do: api.DoArray, X: "l", T: "A"}, {Do: api.DoNull, X: "l"},
		{Do: api.DoCopy, X: "a", Y: "a"}, {Do: api.DoCast, X: "l", T: "A[]", Y: "a"},
		{Do: api.DoLoad, X: "a", Y: "a", F: "f"}, {Do: api.DoStore, X: "a", Y: "a", F: "f"},
		{Do: api.DoGet, X: "a", T: "A", F: "s"}, {Do: api.DoPut, T: "A", F: "s", Y: "a"},
		{Do: api.DoElem, X: "a", Y: "l", Z: "i"}, {Do: api.DoSet, X: "l", Y: "a", Z: "i"},
		{Do: api.DoCall, X: "a", Y: "a", F: "m", Args: []string{"i"}},
		{Do: api.DoSpecial, X: "a", Y: "a", T: "A", F: "m", Args: []string{"i"}},
		{Do: api.DoInt, X: "i"}, {Do: api.DoAdd, X: "i", Y: "i", Z: "i"}, {Do: api.DoSub, X: "i", Y: "i", Z: "i"}, {Do: api.DoInput, X: "i"},
		{Do: api.DoThrow, X: "a"}, {Do: api.DoTry, T: "A", X: "a"}, {Do: api.DoIf, Y: "i", Z: "i"}, {Do: api.DoWhile, Y: "i", Z: "i"},
	} {
		wantFits(t, "a statement alone", mainOf(t, classes, locals, s))
		wantFits(t, "a statement with all else", mainOf(t, classes, locals, full(s)))
	}
	static := full(api.Stmt{Do: api.DoStatic, T: "A", F: "u", Args: []string{}})
	static.X = ""
	wantFits(t, "a static call with all else", mainOf(t, classes, locals, static))
	back := full(api.Stmt{Do: api.DoReturn})
	back.X = ""
	wantFits(t, "a return with all else", mainOf(t, classes, locals, back))
}

// TestVariablesWithoutAName: one may be told; but where there may be no X, an X without a name is none.
func TestVariablesWithoutAName(t *testing.T) {
	const classes = "class A { method A m() { } static method void u() { } static method B v() { } } class B { }"
	fits := func(what string, locals []string, s api.Stmt) {
		wantFits(t, what, mainOf(t, classes, locals, s))
	}
	misfits := func(what string, locals []string, s api.Stmt) {
		wantFault(t, what, mainOf(t, classes, locals, s), place(0))
	}
	nothing, told := []string{"A", "a"}, []string{"A", "a", "int", ""}
	fits("an X", told, api.Stmt{Do: api.DoInt})
	misfits("an X that is none", nothing, api.Stmt{Do: api.DoInt})
	fits("X, Y and Z", told, api.Stmt{Do: api.DoAdd})
	misfits("X, Y and Z that are none", nothing, api.Stmt{Do: api.DoAdd})
	misfits("a thrown one that is none", nothing, api.Stmt{Do: api.DoThrow})
	misfits("a caught one that is none", nothing, api.Stmt{Do: api.DoTry, T: "A"})
	fits("a caught one", []string{"A", ""}, api.Stmt{Do: api.DoTry, T: "A"})
	misfits("a Y that is none", nothing, api.Stmt{Do: api.DoCall, F: "m"})
	for _, locals := range [][]string{nothing, told} {
		fits("a call", locals, api.Stmt{Do: api.DoCall, Y: "a", F: "m"})
		fits("a special call", locals, api.Stmt{Do: api.DoSpecial, Y: "a", T: "A", F: "m"})
		fits("a static call", locals, api.Stmt{Do: api.DoStatic, T: "A", F: "u"})
		fits("a static call of what answers", locals, api.Stmt{Do: api.DoStatic, T: "A", F: "v"})
		fits("a return", locals, api.Stmt{Do: api.DoReturn})
		p := mainOf(t, classes, locals, api.Stmt{Do: api.DoReturn})
		p.Main.Ret = "int"
		wantFault(t, "a return of nothing", p, place(0))
	}
	p := mainOf(t, classes, []string{"int", "", "A", ""})
	wantFault(t, "two without a name", p, p.Main.Locals[1].At)
}

// TestInitsByHand: what no text gives an init counts as in a method.
func TestInitsByHand(t *testing.T) {
	p := program(t, "class A { init { return; } } class B extends A { } main { }")
	x := p.Classes[0].Init
	x.Params = []api.Var{{Type: "B", Name: "b"}}
	x.Body = []api.Stmt{{Do: api.DoCopy, X: "b", Y: "b"}}
	wantFits(t, "a parameter", p)
	x.Body[0].X, x.Body[0].At = "this", place(0)
	wantFault(t, "this", p, place(0))
	x.Static = false
	wantFits(t, "this, where it isn't static", p)
	x.Body[0].X, x.Body[0].Y = "b", "this"
	wantFault(t, "this is an A", p, place(0))
	x.Body[0] = api.Stmt{Do: api.DoReturn, X: "b", At: place(1)}
	wantFault(t, "an answer", p, place(1))
	x.Ret = "A"
	wantFits(t, "an answer of Ret's", p)
	x.Bare = true
	x.Body[0].X = "x"
	wantFault(t, "a Bare init", p, place(1))
	x.Params[0] = api.Var{Type: "void", Name: "b", At: place(2)}
	wantFault(t, "a parameter's type", p, place(2))
	x.Params[0] = api.Var{Type: "int", Name: "this", At: place(3)}
	wantFault(t, "a parameter's name", p, place(3))
}

// TestInitsOfInterfaces: no text has one; it is looked at in its class's turn.
func TestInitsOfInterfaces(t *testing.T) {
	p := program(t, "interface I { method void k(); } class A implements I { method void k() { } } main { }")
	p.Classes[0].Init = &api.Method{Ret: "void", Body: []api.Stmt{{Do: api.DoCall, Y: "this", F: "k", At: place(0)}}}
	wantFits(t, "this is an I", p)
	p.Classes[0].Init.Body[0] = api.Stmt{Do: api.DoThrow, X: "this", At: place(1)}
	wantFault(t, "an I isn't thrown", p, place(1))
	p.Classes[0].Init.Body[0] = api.Stmt{Do: api.DoNew, T: "A", X: "this", At: place(2)}
	wantFits(t, "an A is an I", p)
}

// TestPartsOfInterfaces: no text has them; what is no class has none that a statement may name.
func TestPartsOfInterfaces(t *testing.T) {
	const classes = "interface I { method void m(); method void k(); } class A implements I { method void m() { } method void k() { } }"
	locals := []string{"I", "w", "A", "a", "int", "i"}
	byHand := func(s api.Stmt) api.Program {
		p := mainOf(t, classes, locals, s)
		p.Classes[0].Fields = []api.Var{{Type: "int", Name: "f"}}
		p.Classes[0].Statics = []api.Var{{Type: "int", Name: "s"}}
		return p
	}
	wantFits(t, "a call", byHand(api.Stmt{Do: api.DoCall, Y: "w", F: "m"}))
	for _, s := range []api.Stmt{
		{Do: api.DoLoad, X: "i", Y: "w", F: "f"}, {Do: api.DoStore, X: "w", Y: "i", F: "f"}, {Do: api.DoGet, X: "i", T: "I", F: "s"}, {Do: api.DoPut, Y: "i", T: "I", F: "s"},
		{Do: api.DoLoad, X: "i", Y: "a", F: "f"}, {Do: api.DoGet, X: "i", T: "A", F: "s"},
	} {
		wantFault(t, "an interface's field, or static", byHand(s), place(0))
	}
	p := mainOf(t, "interface I { method void m(); }", []string{"I", "w"})
	p.Classes[0].Methods[0].Static = true
	wantFits(t, "an interface's static method", p)
	for _, do := range []int{api.DoCall, api.DoSpecial, api.DoStatic} {
		p.Main.Body = []api.Stmt{{Do: do, Y: "w", T: "I", F: "m", At: place(0)}}
		wantFault(t, "a call of an interface's static method", p, place(0))
	}
}

// TestMainByHand: its variables are its Locals, and there is no this, whatever it is given; but what it tells must fit.
func TestMainByHand(t *testing.T) {
	p := mainOf(t, "class A { }", []string{"A", "a"}, api.Stmt{Do: api.DoNull, X: "a"})
	p.Main.Static = false
	p.Main.Bare = true
	p.Main.Params = []api.Var{{Type: "A", Name: "b", At: place(7)}}
	wantFits(t, "a parameter", p)
	p.Main.Body[0].X = "this"
	wantFault(t, "this", p, place(0))
	p.Main.Body[0].X = "b"
	wantFault(t, "a parameter that is named", p, place(0))
	p.Main.Params[0].Name = "a"
	wantFault(t, "a parameter's name again", p, p.Main.Locals[0].At)
	p.Main.Params[0] = api.Var{Type: "null", Name: "b", At: place(7)}
	wantFault(t, "a parameter's type", p, place(7))
	p.Main.Params = nil
	p.Main.Ret = "A"
	p.Main.Body = []api.Stmt{{Do: api.DoReturn, X: "a"}, {Do: api.DoReturn, At: place(1)}}
	wantFault(t, "main's answer", p, place(1))
	p.Main.Ret = ""
	p.Main.Body = p.Main.Body[1:]
	wantFault(t, "a Ret that is no void", p, place(1))
}

// TestNoVariablesTypes: null is a type, but none of a variable; void is none.
func TestNoVariablesTypes(t *testing.T) {
	for _, kind := range []string{"null", "void", "", "A[][]", "int[]", "null[]", "a", "A ", "[]", "Int"} {
		p := mainOf(t, "class A { }", []string{"A", "a", "A[]", "l", "int", "i", kind, "x", kind, "y"}, api.Stmt{Do: -1})
		wantFault(t, "a local's "+kind, p, p.Main.Locals[3].At)
		p.Classes[0].Init = &api.Method{Params: []api.Var{{Type: "A[]", Name: "l"}, {Type: kind, Name: "x", At: place(3)}}, Locals: p.Main.Locals}
		wantFault(t, "a parameter's "+kind, p, place(3))
	}
}

// TestTypesThatStatementsTell: what stands as T is but what its row asks for.
func TestTypesThatStatementsTell(t *testing.T) {
	const classes = "class A { static A s; static method void u() { } method void m() { } } interface I { }"
	locals := []string{"A", "a", "A[]", "l", "I", "w", "int", "i"}
	for _, kind := range []string{"null", "void", "int", "", "A[]", "A[][]", "int[]", "null[]", "I", "I[]", "Q", "a"} {
		for _, s := range []api.Stmt{
			{Do: api.DoNew, X: "a", T: kind}, {Do: api.DoNew, X: "l", T: kind}, {Do: api.DoNew, X: "i", T: kind}, {Do: api.DoNew, X: "w", T: kind},
			{Do: api.DoArray, X: "a", T: kind}, {Do: api.DoArray, X: "l", T: kind}, {Do: api.DoArray, X: "i", T: kind},
			{Do: api.DoCast, X: "a", Y: "a", T: kind}, {Do: api.DoCast, X: "i", Y: "a", T: kind},
			{Do: api.DoGet, X: "a", T: kind, F: "s"}, {Do: api.DoPut, Y: "a", T: kind, F: "s"},
			{Do: api.DoSpecial, Y: "a", T: kind, F: "m"}, {Do: api.DoStatic, T: kind, F: "u"}, {Do: api.DoTry, X: "a", T: kind},
		} {
			wantFault(t, "T "+kind, mainOf(t, classes, locals, s), place(0))
		}
	}
}

// TestClassesOfOddNames: what is a type, and which, is layer 9's to tell.
func TestClassesOfOddNames(t *testing.T) {
	named := func(name string, locals []string, body ...api.Stmt) api.Program {
		p := mainOf(t, "class A { } class B extends A { static B s; }", locals, body...)
		p.Classes[0].Name, p.Classes[1].Super = name, name
		return p
	}
	for _, name := range []string{"void", "this", "a b", "\xff", "[]", "Q"} {
		locals := []string{name, "x", name + "[]", "l", "B", "b"}
		wantFits(t, "a class "+name, named(name, locals, api.Stmt{Do: api.DoNew, X: "x", T: name}, api.Stmt{Do: api.DoArray, X: "l", T: name}, api.Stmt{Do: api.DoCopy, X: "x", Y: "b"}, api.Stmt{Do: api.DoGet, X: "x", T: "B", F: "s"}))
		wantFault(t, "a class "+name, named(name, locals, api.Stmt{Do: api.DoNew, X: "b", T: name}), place(0))
	}
	for _, name := range []string{"null", "int"} {
		wantFault(t, "new of "+name, named(name, []string{"B", "b"}, api.Stmt{Do: api.DoNew, X: "b", T: name}), place(0))
		wantFits(t, "arrays of a class "+name, named(name, []string{name + "[]", "l"}, api.Stmt{Do: api.DoNull, X: "l"}))
		wantFault(t, "what isn't the class's type", named(name, []string{"B", "b"}, api.Stmt{Do: api.DoArray, X: "b", T: name}), place(0))
	}
	nameless := mainOf(t, "class A { }", []string{"", "x", "[]", "l", "int", "i"}, api.Stmt{Do: api.DoNew, X: "x"}, api.Stmt{Do: api.DoSet, X: "l", Z: "i", Y: "x"}, api.Stmt{Do: api.DoCopy, X: "x", Y: "y"})
	nameless.Classes[0].Name = ""
	wantFault(t, "a class without a name", nameless, place(2))
	for _, s := range []api.Stmt{
		{Do: api.DoCopy, X: "x", Y: "y"}, {Do: api.DoCopy, X: "y", Y: "x"}, {Do: api.DoElem, X: "x", Y: "i", Z: "i"}, {Do: api.DoSet, X: "i", Y: "x", Z: "i"}, {Do: api.DoSet, X: "y", Y: "x", Z: "i"},
		{Do: api.DoLoad, X: "x", Y: "x", F: "f"}, {Do: api.DoStore, X: "x", Y: "x", F: "f"}, {Do: api.DoGet, X: "x", F: "f"}, {Do: api.DoPut, Y: "x", F: "f"}, {Do: api.DoLoad, X: "x", Y: "y", F: "f"},
		{Do: api.DoNew, X: "y"}, {Do: api.DoThrow, X: "y"}, {Do: api.DoCall, Y: "y", F: "m"}, {Do: api.DoCast, X: "x", Y: "y"}, {Do: api.DoReturn, X: "x"}, {Do: api.DoReturn, X: "y"},
	} {
		s.At = place(0)
		nameless.Main.Body = []api.Stmt{s}
		wantFault(t, "what isn't there is of no class without a name", nameless, place(0))
	}
	p := named("null", []string{"B", "b", "null", "n"})
	wantFault(t, "a variable of null", p, p.Main.Locals[1].At)
}

// TestClassVoid: what answers void answers nothing, whatever class has the name.
func TestClassVoid(t *testing.T) {
	p := mainOf(t, "class A { static method A m() { } }", []string{"void", "x"}, api.Stmt{Do: api.DoStatic, X: "x", T: "void", F: "m"})
	p.Classes[0].Name, p.Classes[0].Methods[0].Ret = "void", "void"
	wantFault(t, "a void answer", p, place(0))
	p.Main.Body[0].X = ""
	wantFits(t, "no X", p)
}
