package show_test

import (
	"math"
	"reflect"
	"slices"
	"strings"
	"testing"
	"unsafe"

	"winnower/api"
	"winnower/show"
)

// wantLine asks for a statement's text on one line.
func wantLine(t *testing.T, what string, s api.Stmt, want string) {
	t.Helper()
	if got := show.Line(s); got != want {
		t.Errorf("%s: %q, want %q", what, got, want)
	}
}

// wantProgram asks for a program's text, which must be these lines.
func wantProgram(t *testing.T, what string, p api.Program, want ...string) {
	t.Helper()
	if got := show.Program(p); got != strings.Join(want, "\n")+"\n" {
		t.Errorf("%s:\n%s\nwant:\n%s", what, got, strings.Join(want, "\n"))
	}
}

// wantSame asks both ways whether programs are the same, and holds the answer against their texts.
func wantSame(t *testing.T, what string, p, q api.Program, want bool) {
	t.Helper()
	if show.Same(p, q) != want || show.Same(q, p) != want {
		t.Errorf("%s: Same is not %v", what, want)
	}
	if (show.Program(p) == show.Program(q)) != want {
		t.Errorf("%s: the texts' being the same is not %v:\n%s%s", what, want, show.Program(p), show.Program(q))
	}
}

// wantStmts asks both ways whether statements are the same.
func wantStmts(t *testing.T, what string, a, b []api.Stmt, want bool) {
	t.Helper()
	if show.Stmts(a, b) != want || show.Stmts(b, a) != want {
		t.Errorf("%s: Stmts is not %v", what, want)
	}
}

// stmt is a statement whose fields tell their names.
func stmt(do int) api.Stmt {
	return api.Stmt{
		Do: do, X: "x", Y: "y", Z: "z", T: "T", F: "f", Args: []string{"a", "b"}, N: 12,
		Body: []api.Stmt{{Do: api.DoThrow, X: "e"}}, Other: []api.Stmt{{Do: api.DoReturn}}, At: api.Pos{Line: 3, Col: 4},
	}
}

// inMain is a program of main with these statements.
func inMain(list ...api.Stmt) api.Program {
	return api.Program{Main: api.Method{Body: list}}
}

// back is a return of a variable.
func back(name string) api.Stmt {
	return api.Stmt{Do: api.DoReturn, X: name}
}

// others are numbers that no statement has.
var others = []int{-1, 23, 24, 99, math.MinInt, math.MaxInt}

var lines = []string{
	"x = new T;", "x = new T[];", "x = null;", "x = y;", "x = (T) y;", "x = y.f;", "x.f = y;", "x = T::f;", "T::f = y;",
	"x = y[z];", "x[z] = y;", "x = y.f(a, b);", "x = y.T::f(a, b);", "x = T::f(a, b);", "x = 12;", "x = y + z;", "x = y - z;",
	"x = input;", "throw x;", "try { throw e; } catch (T x) { return; }", "if (y < z) { throw e; } else { return; }",
	"while (y < z) { throw e; }", "return x;",
}

func TestExample(t *testing.T) {
	wantLine(t, "P6.1: the example", api.Stmt{Do: api.DoCall, X: "x", Y: "y", F: "f", Args: []string{"a", "b"}}, "x = y.f(a, b);")
}

func TestLineOfEachForm(t *testing.T) {
	for do, want := range lines {
		wantLine(t, "P6.1: a form", stmt(do), want)
	}
	for _, do := range others {
		wantLine(t, "P6.1: no form", stmt(do), "")
	}
}

func TestLineWithoutX(t *testing.T) {
	left := map[int]string{api.DoCall: "y.f(a, b);", api.DoSpecial: "y.T::f(a, b);", api.DoStatic: "T::f(a, b);", api.DoReturn: "return;"}
	for do := range len(lines) {
		s := stmt(do)
		s.X = ""
		want, found := left[do]
		if !found {
			want = strings.ReplaceAll(lines[do], "x", "")
		}
		wantLine(t, "P6.1: without X", s, want)
	}
}

func TestLineArgs(t *testing.T) {
	wants := map[string][]string{
		"": nil, "a": {"a"}, "a, b": {"a", "b"}, "c, b, a, c": {"c", "b", "a", "c"}, ", ": {"", ""}, ", a, ": {"", "a", ""}, "a, b, c": {"a, b", "c"},
	}
	for want, args := range wants {
		wantLine(t, "P6.1: args", api.Stmt{Do: api.DoCall, Y: "y", F: "f", Args: args}, "y.f("+want+");")
		wantLine(t, "P6.1: args", api.Stmt{Do: api.DoSpecial, X: "x", Y: "y", T: "T", F: "f", Args: args}, "x = y.T::f("+want+");")
		wantLine(t, "P6.1: args", api.Stmt{Do: api.DoStatic, X: "x", T: "T", F: "f", Args: args}, "x = T::f("+want+");")
	}
	wantLine(t, "P6.1: empty args", api.Stmt{Do: api.DoStatic, T: "T", F: "f", Args: []string{}}, "T::f();")
	wantLine(t, "P6.1: one empty arg", api.Stmt{Do: api.DoStatic, T: "T", F: "f", Args: []string{""}}, "T::f();")
}

func TestLineNumbers(t *testing.T) {
	for n, want := range map[int]string{0: "0", 7: "7", 999: "999", 1000: "1000", -5: "-5", math.MaxInt: "9223372036854775807", math.MinInt: "-9223372036854775808"} {
		wantLine(t, "P6.1: a number", api.Stmt{Do: api.DoInt, X: "x", N: n}, "x = "+want+";")
	}
}

func TestLineBlocks(t *testing.T) {
	unknown := []api.Stmt{stmt(23), stmt(-1)}
	for _, none := range [][]api.Stmt{nil, {}} {
		wantLine(t, "P6.1: empty blocks", api.Stmt{Do: api.DoTry, T: "T", X: "x", Body: none, Other: none}, "try { } catch (T x) { }")
		wantLine(t, "P6.1: an empty block, no else", api.Stmt{Do: api.DoIf, Y: "y", Z: "z", Body: none, Other: none}, "if (y < z) { }")
		wantLine(t, "P6.1: an empty block", api.Stmt{Do: api.DoWhile, Y: "y", Z: "z", Body: none}, "while (y < z) { }")
	}
	wantLine(t, "P6.1: else alone", api.Stmt{Do: api.DoIf, Y: "y", Z: "z", Other: []api.Stmt{back("")}}, "if (y < z) { } else { return; }")
	wantLine(t, "P6.1: left out", api.Stmt{Do: api.DoTry, T: "T", X: "x", Body: unknown, Other: unknown}, "try { } catch (T x) { }")
	wantLine(t, "P6.1: left out, with braces", api.Stmt{Do: api.DoIf, Y: "y", Z: "z", Body: unknown, Other: unknown}, "if (y < z) { } else { }")
	wantLine(t, "P6.1: left out between others", api.Stmt{Do: api.DoWhile, Y: "y", Z: "z", Body: []api.Stmt{back("a"), stmt(23), back("b"), stmt(99)}}, "while (y < z) { return a; return b; }")
	deep := api.Stmt{Do: api.DoWhile, Y: "a", Z: "b", Body: []api.Stmt{stmt(api.DoTry), {Do: api.DoIf, Y: "c", Z: "d", Body: []api.Stmt{stmt(api.DoIf)}}, back("r")}}
	wantLine(t, "P6.1: blocks in blocks", deep, "while (a < b) { try { throw e; } catch (T x) { return; } if (c < d) { if (y < z) { throw e; } else { return; } } return r; }")
}

// TestLineKeepsNames: an end of a line is one blank, but a line feed of a name is no end of a line.
func TestLineKeepsNames(t *testing.T) {
	wantLine(t, "P6.1: names as they are", back("a\n  b\n"), "return a\n  b\n;")
	wantLine(t, "P6.1: names as they are", back("  a  "), "return   a  ;")
	wantLine(t, "P6.1: names as they are", api.Stmt{Do: api.DoWhile, Y: "{", Z: ";\n", Body: []api.Stmt{{Do: api.DoNull, X: "\n\n"}}}, "while ({ < ;\n) { \n\n = null; }")
	wantLine(t, "P6.1: names as they are", api.Stmt{Do: api.DoCopy, X: "\xff\x00é", Y: "return"}, "\xff\x00é = return;")
}

func TestLineIgnoresOtherFields(t *testing.T) {
	counts := map[int]string{
		api.DoNew: "XT", api.DoArray: "XT", api.DoNull: "X", api.DoCopy: "XY", api.DoCast: "XTY", api.DoLoad: "XYF", api.DoStore: "XFY",
		api.DoGet: "XTF", api.DoPut: "TFY", api.DoElem: "XYZ", api.DoSet: "XZY", api.DoCall: "XYFA", api.DoSpecial: "XYTFA",
		api.DoStatic: "XTFA", api.DoInt: "XN", api.DoAdd: "XYZ", api.DoSub: "XYZ", api.DoInput: "X", api.DoThrow: "X",
		api.DoTry: "BTXO", api.DoIf: "YZBO", api.DoWhile: "YZB", api.DoReturn: "X",
	}
	changes := map[string]func(*api.Stmt){
		"X": func(s *api.Stmt) { s.X = "other" }, "Y": func(s *api.Stmt) { s.Y = "other" }, "Z": func(s *api.Stmt) { s.Z = "other" },
		"T": func(s *api.Stmt) { s.T = "other" }, "F": func(s *api.Stmt) { s.F = "other" }, "N": func(s *api.Stmt) { s.N = 13 },
		"A": func(s *api.Stmt) { s.Args = s.Args[:1] }, "B": func(s *api.Stmt) { s.Body = nil }, "O": func(s *api.Stmt) { s.Other = nil },
		"At": func(s *api.Stmt) { s.At = api.Pos{Line: 9, Col: 9} },
	}
	for do := range len(lines) {
		for field, change := range changes {
			s := stmt(do)
			change(&s)
			same := !strings.Contains(counts[do], field)
			if (show.Line(s) == lines[do]) != same {
				t.Errorf("P6.1: %d with another %s: %q", do, field, show.Line(s))
			}
			wantStmts(t, "P6.2: one field is another", []api.Stmt{stmt(do)}, []api.Stmt{s}, same)
			wantSame(t, "P6.2: one field is another", inMain(stmt(do)), inMain(s), same)
		}
	}
}

// whole is a program with all that a program may have.
func whole() api.Program {
	at := api.Pos{Line: 2, Col: 3}
	return api.Program{
		Classes: []api.Class{
			{Name: "I", Face: true, At: at},
			{Name: "J", Face: true, Faces: []string{"I", "K"}, Methods: []api.Method{
				{Ret: "T[]", Name: "get", Bare: true, At: at},
				{Ret: "void", Name: "set", Bare: true, Params: []api.Var{{Type: "T[]", Name: "a", At: at}, {Type: "int", Name: "i"}, {Type: "T", Name: "t"}}},
			}},
			{Name: "A"},
			{Name: "B", Super: "A", Faces: []string{"I", "J"},
				Fields:  []api.Var{{Type: "A", Name: "f"}, {Type: "int", Name: "n"}},
				Statics: []api.Var{{Type: "B[]", Name: "s"}},
				Init:    &api.Method{Ret: "void", Name: "init", Static: true, Locals: []api.Var{{Type: "B[]", Name: "x", At: at}}, Body: []api.Stmt{stmt(api.DoArray)}},
				Methods: []api.Method{
					{Ret: "A", Name: "m", Params: []api.Var{{Type: "A", Name: "p"}}, Locals: []api.Var{{Type: "A", Name: "a"}, {Type: "int", Name: "i"}}, Body: []api.Stmt{stmt(api.DoTry), back("a")}, At: at},
					{Ret: "int", Name: "n", Static: true},
				}},
		},
		Main: api.Method{Ret: "void", Name: "main", Static: true, Locals: []api.Var{{Type: "int", Name: "i"}}, Body: []api.Stmt{{Do: api.DoIf, Y: "i", Z: "j", Body: []api.Stmt{stmt(api.DoWhile)}, Other: []api.Stmt{stmt(api.DoInput)}}}},
	}
}

func wholeText() []string {
	return []string{
		"interface I {",
		"}",
		"interface J extends I, K {",
		"  method T[] get();",
		"  method void set(T[] a, int i, T t);",
		"}",
		"class A {",
		"}",
		"class B extends A implements I, J {",
		"  field A f;",
		"  field int n;",
		"  static B[] s;",
		"  init {",
		"    var B[] x;",
		"    x = new T[];",
		"  }",
		"  method A m(A p) {",
		"    var A a;",
		"    var int i;",
		"    try {",
		"      throw e;",
		"    } catch (T x) {",
		"      return;",
		"    }",
		"    return a;",
		"  }",
		"  static method int n() {",
		"  }",
		"}",
		"main {",
		"  var int i;",
		"  if (i < j) {",
		"    while (y < z) {",
		"      throw e;",
		"    }",
		"  } else {",
		"    x = input;",
		"  }",
		"}",
	}
}

func TestProgram(t *testing.T) {
	wantProgram(t, "P6.1: the zero program", api.Program{}, "main {", "}")
	wantProgram(t, "P6.1: empty lists", api.Program{Classes: []api.Class{}, Main: api.Method{Params: []api.Var{}, Locals: []api.Var{}, Body: []api.Stmt{}}}, "main {", "}")
	wantProgram(t, "P6.1: the whole", whole(), wholeText()...)
	wantProgram(t, "P6.1: nothing of another Do", inMain(stmt(23), back("a"), stmt(-1), back("b")), "main {", "  return a;", "  return b;", "}")
	for do, want := range lines[:api.DoTry] {
		wantProgram(t, "P6.1: a form", inMain(stmt(do)), "main {", "  "+want, "}")
	}
}

func TestHeads(t *testing.T) {
	wantProgram(t, "P6.1: a class's super alone", api.Program{Classes: []api.Class{{Name: "A", Super: "B"}}}, "class A extends B {", "}", "main {", "}")
	wantProgram(t, "P6.1: a class's faces alone", api.Program{Classes: []api.Class{{Name: "A", Faces: []string{"I"}}}}, "class A implements I {", "}", "main {", "}")
	wantProgram(t, "P6.1: no faces", api.Program{Classes: []api.Class{{Name: "A", Faces: []string{}}, {Name: "I", Face: true, Faces: []string{}}}}, "class A {", "}", "interface I {", "}", "main {", "}")
	wantProgram(t, "P6.1: one of an interface's faces", api.Program{Classes: []api.Class{{Name: "I", Face: true, Faces: []string{"J"}}}}, "interface I extends J {", "}", "main {", "}")
	wantProgram(t, "P6.1: empty names", api.Program{Classes: []api.Class{{Faces: []string{""}, Fields: []api.Var{{}}, Methods: []api.Method{{Params: []api.Var{{}, {}}}}}, {Face: true, Faces: []string{"", ""}}}},
		"class  implements  {", "  field  ;", "  method  ( ,  ) {", "  }", "}", "interface  extends ,  {", "}", "main {", "}")
}

// TestWhatHasNoPlaceIsNotTold: of an interface its faces and methods alone, of main and an init their blocks alone.
func TestWhatHasNoPlaceIsNotTold(t *testing.T) {
	full := whole().Classes[3]
	face := full
	face.Face, face.Methods = true, nil
	wantProgram(t, "P6.1: an interface", api.Program{Classes: []api.Class{face}}, "interface B extends I, J {", "}", "main {", "}")
	odd := api.Method{Ret: "R", Name: "n", Static: true, Bare: true, Params: []api.Var{{Type: "P", Name: "p"}}, Locals: []api.Var{{Type: "L", Name: "l"}}, Body: []api.Stmt{back("")}}
	wantProgram(t, "P6.1: an init, main", api.Program{Classes: []api.Class{{Name: "A", Init: &odd}}, Main: odd},
		"class A {", "  init {", "    var L l;", "    return;", "  }", "}", "main {", "  var L l;", "  return;", "}")
}

func TestMethods(t *testing.T) {
	m := api.Method{Ret: "R", Name: "m", Params: []api.Var{{Type: "T", Name: "p"}}, Locals: []api.Var{{Type: "L", Name: "l"}}, Body: []api.Stmt{back("l")}}
	block := []string{"    var L l;", "    return l;", "  }"}
	for _, face := range []bool{false, true} {
		for _, static := range []bool{false, true} {
			for _, bare := range []bool{false, true} {
				m.Static, m.Bare = static, bare
				want := []string{map[bool]string{false: "class A {", true: "interface A {"}[face]}
				switch {
				case bare:
					want = append(want, "  method R m(T p);")
				case static:
					want = append(append(want, "  static method R m(T p) {"), block...)
				default:
					want = append(append(want, "  method R m(T p) {"), block...)
				}
				p := api.Program{Classes: []api.Class{{Name: "A", Face: face, Methods: []api.Method{m}}}}
				wantProgram(t, "P6.1: a method", p, append(want, "}", "main {", "}")...)
			}
		}
	}
}

func TestProgramKeepsNames(t *testing.T) {
	odd := "a\nb\n  c\n"
	p := api.Program{
		Classes: []api.Class{{Name: odd, Super: " ", Faces: []string{"\n"}, Fields: []api.Var{{Type: "{", Name: "}"}}, Methods: []api.Method{{Ret: ";", Name: "\n", Params: []api.Var{{Type: ",", Name: "\xff"}}}}}},
		Main:    api.Method{Locals: []api.Var{{Type: odd, Name: "\x00"}}, Body: []api.Stmt{{Do: api.DoWhile, Y: odd, Z: "é", Body: []api.Stmt{back(odd)}}}},
	}
	wantProgram(t, "P6.1: names as they are", p,
		"class a", "b", "  c", " extends   implements ", " {", "  field { };", "  method ; ", "(, \xff) {", "  }", "}",
		"main {", "  var a", "b", "  c", " \x00;", "  while (a", "b", "  c", " < é) {", "    return a", "b", "  c", ";", "  }", "}")
}

// changed are programs that are the whole one but for one thing that their texts tell.
func changed() map[string]func(p *api.Program) {
	return map[string]func(p *api.Program){
		"a class more":       func(p *api.Program) { p.Classes = append(p.Classes, api.Class{}) },
		"a class less":       func(p *api.Program) { p.Classes = p.Classes[1:] },
		"the classes' order": func(p *api.Program) { slices.Reverse(p.Classes) },
		"a class's name":     func(p *api.Program) { p.Classes[2].Name = "C" },
		"a face":             func(p *api.Program) { p.Classes[2].Face = true },
		"a super":            func(p *api.Program) { p.Classes[3].Super = "" },
		"faces' order":       func(p *api.Program) { slices.Reverse(p.Classes[3].Faces) },
		"an interface's":     func(p *api.Program) { p.Classes[1].Faces = nil },
		"a field's type":     func(p *api.Program) { p.Classes[3].Fields[1].Type = "T" },
		"a field's name":     func(p *api.Program) { p.Classes[3].Fields[1].Name = "t" },
		"a static":           func(p *api.Program) { p.Classes[3].Statics = nil },
		"an init":            func(p *api.Program) { p.Classes[3].Init = nil },
		"an empty init":      func(p *api.Program) { p.Classes[2].Init = &api.Method{} },
		"an init's local":    func(p *api.Program) { p.Classes[3].Init.Locals = nil },
		"a method's answer":  func(p *api.Program) { p.Classes[3].Methods[0].Ret = "B" },
		"a static method":    func(p *api.Program) { p.Classes[3].Methods[1].Static = false },
		"a bare method":      func(p *api.Program) { p.Classes[3].Methods[1].Bare = true },
		"a param":            func(p *api.Program) { p.Classes[1].Methods[1].Params[1].Type = "T" },
		"a local":            func(p *api.Program) { p.Classes[3].Methods[0].Locals[0].Name = "b" },
		"a body":             func(p *api.Program) { p.Classes[3].Methods[0].Body[0].Other = nil },
		"main's local":       func(p *api.Program) { p.Main.Locals = nil },
		"main's body":        func(p *api.Program) { p.Main.Body = append(p.Main.Body, back("")) },
	}
}

func TestSame(t *testing.T) {
	wantSame(t, "P6.2: zero programs", api.Program{}, api.Program{}, true)
	wantSame(t, "P6.2: nil and empty", api.Program{}, api.Program{Classes: []api.Class{}, Main: api.Method{Body: []api.Stmt{}}}, true)
	wantSame(t, "P6.2: wholes", whole(), whole(), true)
	for what, change := range changed() {
		p := whole()
		change(&p)
		wantSame(t, "P6.2: "+what, whole(), p, false)
		wantSame(t, "P6.2: both "+what, p, p, true)
	}
}

// TestSameIgnores: places, and what the text doesn't tell.
func TestSameIgnores(t *testing.T) {
	ignored := map[string]func(p *api.Program){
		"a class's place":    func(p *api.Program) { p.Classes[0].At = api.Pos{Line: 70} },
		"a field's place":    func(p *api.Program) { p.Classes[3].Fields[0].At = api.Pos{Col: 70} },
		"a method's place":   func(p *api.Program) { p.Classes[3].Methods[0].At = api.Pos{Line: 70} },
		"a param's place":    func(p *api.Program) { p.Classes[1].Methods[1].Params[0].At = api.Pos{Line: 70} },
		"a local's place":    func(p *api.Program) { p.Main.Locals[0].At = api.Pos{Line: 70} },
		"a place in a block": func(p *api.Program) { p.Main.Body[0].Body[0].Body[0].At = api.Pos{Line: 70} },
		"main's name":        func(p *api.Program) { p.Main.Name, p.Main.Ret, p.Main.Static = "other", "int", false },
		"an init's name":     func(p *api.Program) { p.Classes[3].Init.Name = "other" },
		"an interface's":     func(p *api.Program) { p.Classes[0].Super, p.Classes[0].Init = "S", &api.Method{} },
		"a bare one's block": func(p *api.Program) { p.Classes[1].Methods[0].Body = []api.Stmt{back("")} },
		"another Do":         func(p *api.Program) { p.Main.Body = append(p.Main.Body, stmt(23)) },
	}
	for what, change := range ignored {
		p := whole()
		change(&p)
		wantSame(t, "P6.2: "+what, whole(), p, true)
		if reflect.DeepEqual(p, whole()) {
			t.Errorf("%s changed nothing", what)
		}
	}
}

// TestSameIsOfTexts has programs that are unlike, but whose texts are the same, or nearly so, since names stand as they are.
func TestSameIsOfTexts(t *testing.T) {
	load, odd := api.Stmt{Do: api.DoLoad, X: "x", Y: "y", F: "f"}, api.Stmt{Do: api.DoCopy, X: "x", Y: "y.f"}
	wantSame(t, "P6.2: a load, a copy", inMain(load), inMain(odd), true)
	wantStmts(t, "P6.2: a load, a copy", []api.Stmt{load}, []api.Stmt{odd}, true)
	two := []api.Stmt{back("a"), back("b")}
	wantStmts(t, "P6.2: two in one", two, []api.Stmt{back("a;\nreturn b")}, true)
	wantStmts(t, "P6.2: two in one, further in", two, []api.Stmt{back("a;\n  return b")}, false)
	wantStmts(t, "P6.2: two in one line", two, []api.Stmt{back("a; return b")}, false)
	wantSame(t, "P6.2: two in one", inMain(two...), inMain(back("a;\n  return b")), true)
	wantSame(t, "P6.2: two in one, not as far in", inMain(two...), inMain(back("a;\nreturn b")), false)
	wantSame(t, "P6.2: two in one, too far in", inMain(two...), inMain(back("a;\n   return b")), false)
	blank, none := api.Stmt{Do: api.DoNull, X: "  x"}, api.Stmt{Do: api.DoNull, X: "x"}
	wantSame(t, "P6.2: a name with blanks", inMain(blank), inMain(none), false)
	loop := api.Stmt{Do: api.DoWhile, Y: "y", Z: "z", Body: []api.Stmt{none}}
	wantSame(t, "P6.2: a loop in a name", inMain(loop), inMain(back("")), false)
	wantStmts(t, "P6.2: a loop in a name", []api.Stmt{loop, none}, []api.Stmt{{Do: api.DoNull, X: "while (y < z) {\n  x = null;\n}\nx"}}, true)
	wantStmts(t, "P6.2: a loop's body behind it", []api.Stmt{{Do: api.DoWhile, Y: "y", Z: "z"}, none}, []api.Stmt{loop}, false)
	wantStmts(t, "P6.2: tabs are no blanks", []api.Stmt{{Do: api.DoNull, X: "\tx"}}, []api.Stmt{{Do: api.DoNull, X: " x"}}, false)
	member := api.Program{Classes: []api.Class{{Name: "A {\n}\nclass B"}}}
	wantSame(t, "P6.2: two classes in one", member, api.Program{Classes: []api.Class{{Name: "A"}, {Name: "B"}}}, true)
}

func TestStmts(t *testing.T) {
	wantStmts(t, "P6.2: nil and empty", nil, []api.Stmt{}, true)
	wantStmts(t, "P6.2: none, and what is left out", nil, []api.Stmt{stmt(23), stmt(-1)}, true)
	wantStmts(t, "P6.2: none and one", nil, []api.Stmt{back("")}, false)
	wantStmts(t, "P6.2: one and two", []api.Stmt{back("")}, []api.Stmt{back(""), back("")}, false)
	wantStmts(t, "P6.2: their order", []api.Stmt{back("a"), back("b")}, []api.Stmt{back("b"), back("a")}, false)
	for do := range len(lines) {
		for other := range len(lines) {
			wantStmts(t, "P6.2: forms", []api.Stmt{stmt(do)}, []api.Stmt{stmt(other)}, do == other)
		}
		wantStmts(t, "P6.2: a form and nothing", []api.Stmt{stmt(do)}, nil, false)
	}
}

func TestWhatIsHandedInIsNeitherChangedNorKept(t *testing.T) {
	p := whole()
	p.Classes = slices.Grow(p.Classes, 3)
	spare := p.Classes[:len(p.Classes)+3]
	spare[len(spare)-1].Name = "spare"
	args := []string{"a", "b", "c", "d"}
	s := api.Stmt{Do: api.DoCall, Y: "y", F: "f", Args: args[:2]}
	text, line := show.Program(p), show.Line(s)
	show.Same(p, p)
	show.Stmts(p.Main.Body, p.Main.Body)
	if !reflect.DeepEqual(p, whole()) || spare[len(spare)-1].Name != "spare" || !slices.Equal(args, []string{"a", "b", "c", "d"}) {
		t.Error("P6.3: what was handed in is another now")
	}
	p.Main.Body[0].Y, args[0] = "other", "other"
	if text == show.Program(p) || line == show.Line(s) || text != show.Program(whole()) || line != "y.f(a, b);" {
		t.Error("P6.3: what was handed in is kept")
	}
}

// TestAnswersAreNewMemory overwrites the octets of which a name was made: no answer may change with them.
func TestAnswersAreNewMemory(t *testing.T) {
	octets := []byte("name")
	name := unsafe.String(&octets[0], len(octets))
	s := api.Stmt{X: name, Y: name, Z: name, T: name, F: name, Args: []string{name}}
	answers, wants := []string{}, []string{}
	for do := range len(lines) {
		s.Do = do
		answers = append(answers, show.Line(s), show.Program(inMain(s)))
		wants = append(wants, strings.Clone(show.Line(s)), strings.Clone(show.Program(inMain(s))))
	}
	copy(octets, "????")
	if !slices.Equal(answers, wants) {
		t.Errorf("P6.3: an answer changed with what was handed in: %q", answers)
	}
}

// nest is a loop in a loop, so many deep, with one statement within.
func nest(deep int, s api.Stmt) api.Stmt {
	for range deep {
		s = api.Stmt{Do: api.DoWhile, Y: "y", Z: "z", Body: []api.Stmt{s}}
	}
	return s
}

// TestDeepNest: statements may stand in each other 2^16 deep; whether such are the same is told without their blanks, which are too many.
func TestDeepNest(t *testing.T) {
	const deep = 1<<16 - 1
	s, other := nest(deep, back("x")), nest(deep, back("y"))
	wantLine(t, "P6.1: a deep nest", s, strings.Repeat("while (y < z) { ", deep)+"return x;"+strings.Repeat(" }", deep))
	wantStmts(t, "P6.2: deep nests", []api.Stmt{s}, []api.Stmt{nest(deep, back("x"))}, true)
	wantStmts(t, "P6.2: unlike within", []api.Stmt{s}, []api.Stmt{other}, false)
	wantStmts(t, "P6.2: one less deep", []api.Stmt{s}, s.Body, false)
	if !show.Same(inMain(s), inMain(s)) || show.Same(inMain(s), inMain(other)) {
		t.Error("P6.2: Same of deep nests")
	}
	within := strings.Repeat("  ", deep)
	wantStmts(t, "P6.2: two in one, deep", []api.Stmt{nest(deep, back("a;\n"+within+"b"))}, []api.Stmt{nest(deep, back("a;\n"+within[1:]+"b"))}, false)
	text := show.Program(inMain(nest(1000, back("x"))))
	if !strings.Contains(text, "\n"+strings.Repeat("  ", 1001)+"return x;\n"+strings.Repeat("  ", 1000)+"}\n") {
		t.Error("P6.1: a deep nest's blanks")
	}
}
