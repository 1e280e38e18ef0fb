package member_test

import (
	"strings"
	"testing"

	"winnower/api"
	"winnower/hier"
	"winnower/member"
)

// wantFault asks for ErrValid at a place.
func wantFault(t *testing.T, what string, p api.Program, at api.Pos) {
	t.Helper()
	want := api.Fault{Err: api.ErrValid, Line: at.Line, Col: at.Col}
	if m, fault := member.New(p); m != nil || fault != want {
		t.Errorf("P10.1: %s: %v, %v, want %v", what, m, fault, want)
	}
}

// placeOf is a text without its mark, and the mark's place.
func placeOf(t *testing.T, text string) (string, api.Pos) {
	t.Helper()
	ahead, behind, found := strings.Cut(text, "#")
	if !found {
		t.Fatalf("%q: no mark", text)
	}
	line := strings.Count(ahead, "\n") + 1
	return ahead + behind, api.Pos{Line: line, Col: len(ahead) - strings.LastIndex(ahead, "\n")}
}

// wrongTexts are classes that aren't right; # stands ahead of the first place.
var wrongTexts = []string{
	// The types of fields and statics.
	"class A { field #Q f; }",
	"class A { field #Q[] f; }",
	"class A { field int e; field A f; field #B g; field C h; }",
	"class A { static #Q f; }",
	"class A { static int e; static #A2 f; }",
	"interface I { } class A { field I e; field I[] f; static I g; static #J h; }",
	// Their names.
	"class A { field int f; field #int f; }",
	"class A { field int f; field A g; field #A f; field int f; }",
	"class A { static int f; static #A f; }",
	"class B { field int f; } class A extends B { field #int f; }",
	"class A extends B { field int e; field #int f; } class B { field int f; }",
	"class A extends B { field #int f; } class B extends C { field int g; } class C { field int f; }",
	"class A extends B { static #A f; } class B extends C { } class C { static int f; }",
	"class A extends B { field int f; static #A f; } class B { static int f; }",
	// A method's types.
	"class A { #method Q m() { } }",
	"class A { #method Q[] m() { } }",
	"class A { #method void m(Q q) { } }",
	"class A { #method void m(A a, int i, Q[] q, A b) { } }",
	"class A { method void k() { } #static method Q m() { } }",
	"interface I { #method Q m(); }",
	"interface I { method I m(I i); #method void n(I[] i, J j); }",
	// A method's name.
	"class A { method int m() { } #method int m() { } }",
	"class A { method int m() { } method void n() { } #static method void m() { } }",
	"interface I { method int m(); #method int m(); }",
	// Methods above.
	"class B { method int m() { } } class A extends B { #method void m() { } }",
	"class B { method int m() { } } class A extends B { #method int m(int i) { } }",
	"class B { method int m(int i) { } } class A extends B { #method int m() { } }",
	"class B { method int m(A a, int i) { } } class A extends B { #method int m(int i, A a) { } }",
	"class B { method int m(A a) { } } class A extends B { #method int m(B b) { } }",
	"class B { method B m() { } } class A extends B { #method A m() { } }",
	"class B { method B[] m() { } } class A extends B { #method B m() { } }",
	"class A extends B { #method void m() { } } class B extends C { } class C { method int m() { } }",
	"class B { method int m() { } } class A extends B { #static method int m() { } }",
	"class B { static method int m() { } } class A extends B { #method int m() { } }",
	"class B { static method int m() { } } class A extends B { #static method int m() { } }",
	"interface I { method int m(); } class A implements I { #method void m() { } }",
	"interface I { method int m(); } class A implements I { method void k() { } #static method int m() { } }",
	"interface I { method int m(int i); } interface J extends I { } class A implements J { #method int m(A a) { } }",
	"interface I { method int m(); } interface J extends I { #method void m(); }",
	"interface I { method int m(); } interface J { method void m(); } interface K extends I, J { #method int m(); }",
	"interface I { method int m(); } interface J { method void m(); } interface K extends I, J { #method void m(); }",
	"interface I { method int m(); } interface J { method void m(); } interface K extends I, J { } interface L extends K { #method int m(); }",
	"interface E { } interface I { method int m(); } interface J { method void m(); } interface K extends I, E, J, E2 { #method int m(); } interface E2 { }",
	"interface E { } interface I { method int m(); } interface J { method void m(); } interface K extends J, I, E { } interface L extends K, E { #method void m(); }",
	"interface I { method int m(); } class B implements I { method int m() { } } class A extends B { #method void m() { } }",
	// Methods that are missing.
	"interface I { method int m(); } #class A implements I { }",
	"interface I { method int m(); } #class A implements I { field int m; static int m; method int n() { } }",
	"interface I { method int m(); } interface J extends I { } #class A implements J { }",
	"#class A extends B { } class B implements I { } interface I { method int m(); }",
	"interface I { method int m(); } #class B implements I { } class A extends B { method int m() { } }",
	"class A extends B { method int m() { } } #class B implements I { } interface I { method int m(); }",
	"interface I { method int m(); method void n(); } #class A implements I { method int m() { } }",
	"interface I { method int m(); } interface J { method void n(); } #class A implements I, J { method int m() { } }",
	"interface I { method int m(); } class B { method void m() { } } #class A extends B implements I { }",
	"interface I { method int m(int i); } class B { method int m() { } } #class A extends B implements I { }",
	"interface I { method int m(); } class B { static method int m() { } } #class A extends B implements I { }",
	"interface I { method int m(); } interface J { method void m(); } class B { method int m() { } } #class A extends B implements I, J { }",
	"interface I { method int m(); } interface J { method void m(); } class B { method int m() { } } #class A extends B implements J, I { }",
	"interface I { method int m(); } interface J { method void m(); } interface K extends I, J { } class B { method int m() { } } #class A extends B implements K { }",
	"interface E { } interface I { method int m(); } interface J { method void m(); } class B { method int m() { } } #class A extends B implements I, J, E { }",
	"interface E { } interface I { method int m(); } interface J { method void m(); } interface K extends I, J, E { } class B { method int m() { } } #class A extends B implements K, E { }",
	// The order of what is asked.
	"class A { method Q m() { } static Q g; field #Q f; }",
	"class A { method Q m() { } static #Q g; field int f; }",
	"interface I { method int k(); } class A implements I { #method Q m() { } }",
	"interface I { method int k(); } class A implements I { method int m() { } method int n() { } #method int m() { } }",
	"interface I { method int k(); } #class A implements I { } class B { field Q f; }",
	"class B { field #Q f; } interface I { method int k(); } class A implements I { }",
	"class A extends B { field #int f; } class B { field Q f; }",
	"class A extends B { #method void m() { } } class B { method int m() { } method int m() { } }",
	"class A { field int f; field #Q g; field int f; }",
	"class A { field int f; field #int f; field Q g; }",
	"class A { field int a; static int b; method int m(int i) { }\n #method int n(Q q) { } }",
	// A later one of a name counts for nobody below.
	"class A extends B { method int m() { } } class B { method int m() { } #method void m() { } }",
	"class A implements I { method int m() { } } interface I { method int m(); #method void m(); }",
	"class A extends B { method void m() { } field int f; } class B { field int g; field #int g; }",
}

func TestNotRight(t *testing.T) {
	for _, marked := range wrongTexts {
		text, at := placeOf(t, marked)
		wantFault(t, marked, program(t, text), at)
		text, at = placeOf(t, strings.ReplaceAll(marked, " { ", "\n{\n  "))
		wantFault(t, marked+" over lines", program(t, text), at)
	}
}

// rightTexts are classes that are right.
var rightTexts = []string{
	"class A { }",
	"interface I { }",
	"class A { field A f; field A[] g; field int h; field B i; } class B { }",
	"class A { field int f; static int f; method int f() { } }",
	"class A { field int f; } class B { field A f; static int g; } class C { static A g; }",
	"class B { field int f; } class A extends B { static int f; method A f() { } }",
	"class A extends C { field int f; } class B extends C { field B f; } class C { }",
	"class A { method void m() { } method A n(A a, A b, int i, A[] c) { } }",
	"class B { method int m(A a) { } } class A extends B { method int m(A b) { } }",
	"class B { method int m() { } } class A extends B { }",
	"class B { static method int m() { } } class A extends B { }",
	"class A { method int m() { } } class B { method void m(int i) { } } class C { static method C m() { } }",
	"class A extends C { method int m() { } } class B extends C { static method void m() { } } class C { }",
	"interface I { method int m(); } class A implements I { method int m() { } }",
	"interface I { method int m(); } class B { method int m() { } } class A extends B implements I { }",
	"interface I { method int m(); } class A extends B { } class B implements I { method int m() { } }",
	"interface I { method int m(); } class A implements I { method int m() { } } class B extends A implements I { method int m() { } }",
	"interface I { method int m(int i); } interface J extends I { method int m(int j); } interface K extends I, J { } class A implements K { method int m(int k) { } }",
	"interface I { method int m(); } interface J { method void m(); } interface K extends I, J { }",
	"interface I { method int m(); } interface J extends I { } interface K extends I { } interface L extends J, K { }",
	"class A { init { } method void m() { } } class B extends A { init { } }",
}

func TestRight(t *testing.T) {
	for _, text := range rightTexts {
		if m, fault := member.New(program(t, text)); m == nil || fault != (api.Fault{}) {
			t.Errorf("P10.1: %q: %v, %v", text, m, fault)
		}
	}
}

// TestFaultsOfClasses: layer 8's fault goes ahead of all others.
func TestFaultsOfClasses(t *testing.T) {
	for _, marked := range []string{
		"#class A extends Q { }",
		"class A { field Q f; } #class B extends Q { }",
		"class A { method Q m() { } }\n  #class A { }",
		"class A { static int f; static int f; } #class B extends C { } class C extends B { }",
		"interface I { method int m(); } class A implements I { } #interface J extends A { }",
	} {
		text, at := placeOf(t, marked)
		p := program(t, text)
		wantFault(t, marked, p, at)
		_, fault := hier.New(p)
		if _, got := member.New(p); got != fault {
			t.Errorf("P10.1: %s: %v, and layer 8's %v", marked, got, fault)
		}
	}
}

// TestPlaces: a fault's place is that of the member or class, whatever that is.
func TestPlaces(t *testing.T) {
	for _, at := range []api.Pos{{}, {Line: 1, Col: 1}, {Line: 20000, Col: 3}, {Line: -5, Col: -6}} {
		other := api.Pos{Line: 77, Col: 88}
		field := api.Var{Type: "Q", Name: "f", At: at}
		wantFault(t, "a field", api.Program{Classes: []api.Class{{Name: "A", Fields: []api.Var{field}, At: other}}}, at)
		wantFault(t, "a static", api.Program{Classes: []api.Class{{Name: "A", Statics: []api.Var{field}, At: other}}}, at)
		method := api.Method{Ret: "void", Name: "m", Params: []api.Var{{Type: "Q", Name: "q", At: other}}, At: at}
		wantFault(t, "a method", api.Program{Classes: []api.Class{{Name: "A", Methods: []api.Method{method}, At: other}}}, at)
		bare := api.Method{Ret: "void", Name: "m", Bare: true, At: other}
		wantFault(t, "a class", api.Program{Classes: []api.Class{{Name: "A", Methods: []api.Method{bare}, At: at}}}, at)
	}
}

// TestFaultsAreNothingToTheNext: a fault leaves nothing behind.
func TestFaultsAreNothingToTheNext(t *testing.T) {
	p := program(t, "class A { field int f; field int g; }")
	p.Classes[0].Fields[1].Name = "f"
	wantFault(t, "two of one name", p, p.Classes[0].Fields[1].At)
	p.Classes[0].Fields[1].Name = "g"
	wantFields(t, made(t, p.Classes...), 0, api.Member{Name: "f", Type: "int"}, api.Member{Name: "g", Type: "int"})
}
