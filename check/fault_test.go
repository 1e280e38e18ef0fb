package check_test

import (
	"strings"
	"testing"

	"winnower/api"
	"winnower/member"
)

// wrongTexts are programs that don't fit; # stands ahead of the first place.
var wrongTexts = []string{
	// A variable's type.
	"main { var #Q q; }",
	"main { var #Q[] q; }",
	"main { var int a; var #Q b; var R c; }",
	"class A { init { var #Q q; } } main { }",
	"class A { method void m() { var A a; var #B b; } } main { }",
	"interface I { } class A { static method void m() { var I i; var I[] j; var A[] a; var #J[] b; } } main { }",
	// Its name.
	"main { var int a; var #int a; }",
	"main { var int a; var int b; var #int a; var int b; }",
	"class A { method void m(int i, #int i) { } } main { }",
	"class A { method void m(int i, A a, #A i, int i) { } } main { }",
	"class A { method void m(int i) { var #A i; } } main { }",
	"class A { method void m(int i) { var int j; var #A j; } } main { }",
	"class A { static method void m(int i) { var int j; var #int i; } } main { }",
	"class A { init { var int i; var #A i; } } main { }",
	"main { var #int this; }",
	"class A { method void m(#A this) { } } main { }",
	"class A { method void m() { var #A this; } } main { }",
	"class A { static method void m(int i, #A this) { } } main { }",
	"class A { static method void m(int i) { var #A this; } } main { }",
	"class A { init { var #A this; } } main { }",
	// Type and name, whichever is first in the list.
	"class A { method void m() { var int i; var #Q q; var int i; } } main { }",
	"class A { method void m() { var int i; var #int i; var Q q; } } main { }",
	"class A { method void m(int i, #int i) { var Q q; q = q; } } main { }",
	"main { var #Q q; q = x; }",
	// A variable is none where it isn't told.
	"class A { method void m(int i) { } method void n() { #i = 1; } } main { }",
	"class A { method void m() { var int i; } init { #i = 1; } } main { }",
	"class A { field int i; static int j; method void m() { #i = 1; } } main { }",
	"class A { field int i; static int j; method void m() { #j = 1; } } main { }",
	"class A { init { var int i; } } main { #i = 1; }",
	"class A { } main { var A a; #A = a; }",
	// Each statement ahead of those in its blocks, Body ahead of Other.
	"main { var int i; #x = i; y = i; }",
	"main { var int i; i = 1; #y = i; x = i; }",
	"main { var int i; #while (x < i) { y = i; } }",
	"main { var int i; while (i < i) { i = 1; #y = i; } z = i; }",
	"main { var int i; #if (i < x) { y = i; } else { z = i; } }",
	"main { var int i; if (i < i) { #y = i; } else { z = i; } }",
	"main { var int i; if (i < i) { } else { i = 1; #z = i; } x = i; }",
	"main { var int i; if (i < i) { i = 1; } else { #z = i; z = i; } }",
	"class A { } main { var A a; #try { x = a; } catch (A x) { y = a; } }",
	"class A { } main { var A a; try { #x = a; } catch (A a) { y = a; } z = a; }",
	"class A { } main { var A a; try { a = a; } catch (A a) { #y = a; } z = a; }",
	"main { var int i; while (i < i) { while (i < i) { if (i < i) { } else { while (i < i) { #x = 1; } } } } y = 1; }",
	"main { var int i; while (i < i) { if (i < i) { while (i < i) { } } #x = 1; } y = 1; }",
	// Class by class its Init, its Methods, and then main.
	"class A { } class B { method void m() { #x = 1; } } class C { method void m() { y = 1; } } main { z = 1; }",
	"class A { } class B { init { #x = 1; } } class C { init { y = 1; } } main { z = 1; }",
	"class A { method void m() { x = 1; } method void n() { y = 1; } init { #z = 1; } } main { }",
	"class A { method void m() { } method void n() { #y = 1; } init { } } class B { init { x = 1; } } main { }",
	"class A { method void m() { } static method void n() { #y = 1; } method void k() { x = 1; } } main { var Q q; }",
	"class A { method void m() { #x = 1; } static method void n(int i, int i) { } } main { }",
	"interface I { method void m(int i, int i); } class A { method void k(int i, #int i) { } } main { }",
	"class A extends B { method void m() { #x = 1; } } class B { method void m() { y = 1; } } main { }",
	"class A extends B { method void m() { } } class B { method void m() { #y = 1; } } main { }",
	// Lines.
	"class A {\n  method void m() {\n    var int i;\n    if (i < i) {\n      i = 1;\n    } else {\n      #i = x;\n    }\n  }\n}\nmain { }",
	"class A {\n  init {\n  }\n  method void m(\n    int i,\n    #A this) {\n    x = i; } }\nmain { }",
}

func TestFaults(t *testing.T) {
	for _, marked := range wrongTexts {
		text, at := placeOf(t, marked)
		wantFault(t, marked, program(t, text), at)
		text, at = placeOf(t, strings.ReplaceAll(marked, " { ", "\n{\n  "))
		wantFault(t, marked+" over lines", program(t, text), at)
	}
}

// TestFaultsOfMembers: layer 10's fault goes ahead of all others.
func TestFaultsOfMembers(t *testing.T) {
	for _, marked := range []string{
		"class A { method void m() { x = 1; } } #class A { } main { }",
		"class A { init { x = 1; } } #class B extends Q { } main { }",
		"class A { init { x = 1; } } class B { #method Q m() { } } main { }",
		"class A { init { x = 1; } #method void m(Q q) { } } main { }",
		"class A { method void m(int i, int i) { } } class B { field #Q f; } main { }",
		"interface I { method void m(); } #class A implements I { method void n() { x = 1; } } main { x = 1; }",
	} {
		text, at := placeOf(t, marked)
		p := program(t, text)
		wantFault(t, marked, p, at)
		p.Main.Locals = nil
		if _, fault := member.New(p); fault != (api.Fault{Err: api.ErrValid, Line: at.Line, Col: at.Col}) {
			t.Errorf("P10.1: %s: %v", marked, fault)
		}
	}
}

// TestPlaces: a fault's place is that of the variable or statement, whatever that is.
func TestPlaces(t *testing.T) {
	other := api.Pos{Line: 77, Col: 88}
	for _, at := range []api.Pos{{}, {Line: 1, Col: 1}, {Line: 20000, Col: 3}, {Line: -5, Col: -6}} {
		wrong := api.Method{Ret: "void", Locals: []api.Var{{Type: "Q", Name: "q", At: at}}, At: other}
		wantFault(t, "main's local", api.Program{Main: wrong}, at)
		wantFault(t, "an init's local", api.Program{Classes: []api.Class{{Name: "A", Init: &wrong, At: other}}}, at)
		wrong.Locals, wrong.Params = nil, []api.Var{{Type: "int", Name: "this", At: at}}
		wantFault(t, "a method's param", api.Program{Classes: []api.Class{{Name: "A", Methods: []api.Method{wrong}, At: other}}}, at)
		wrong.Params, wrong.Body = nil, []api.Stmt{{Do: api.DoThrow, X: "x", At: at}}
		wantFault(t, "main's statement", api.Program{Main: wrong}, at)
		wrong.Body = []api.Stmt{{Do: api.DoTry, T: "A", X: "a", Other: wrong.Body, At: other}}
		wrong.Locals = []api.Var{{Type: "A", Name: "a", At: other}}
		wantFault(t, "a block's statement", api.Program{Classes: []api.Class{{Name: "A", At: other}}, Main: wrong}, at)
	}
}

// TestFaultsAreNothingToTheNext: a fault leaves nothing behind.
func TestFaultsAreNothingToTheNext(t *testing.T) {
	p := program(t, "class A { } main { var A a; a = new A; }")
	p.Main.Body[0].T = "Q"
	wantFault(t, "no class", p, p.Main.Body[0].At)
	p.Main.Body[0].T = "A"
	wantFits(t, "mended", p)
}

// TestSameNames: what is told in one place takes no name from another, or from what a class has.
func TestSameNames(t *testing.T) {
	for _, text := range []string{
		"class A { field int a; static int a; method void a(A a) { a = a; a.a(a); } method void b(int a) { a = 1; } init { var A a; a = null; } } main { var A[] a; a = new A[]; }",
		"class A { static method void m(A A) { A = new A; A.n(); A::m(A); } method void n() { var int m; m = m + m; } } main { }",
		"class A { method void m(int i) { var int j; i = j; } method void n(int j) { var int i; i = j; } } main { var int i; var int j; i = j; }",
		"interface I { method void m(int i, int i, I this); } main { }",
		"class A { field int this; static A this2; method void this(A a) { a.this(this); } } main { }",
	} {
		wantFits(t, text, program(t, text))
	}
}
