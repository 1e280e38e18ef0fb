package check_test

import (
	"slices"
	"strings"
	"testing"

	"winnower/api"
	"winnower/check"
	"winnower/member"
	"winnower/parse"
)

// program is that of a text.
func program(t *testing.T, text string) api.Program {
	t.Helper()
	p, fault := parse.Parse(text)
	if fault.Err != api.OK {
		t.Fatalf("%q: %v", text, fault)
	}
	return p
}

// wantFits asks for members.
func wantFits(t *testing.T, what string, p api.Program) *member.Members {
	t.Helper()
	m, fault := check.Check(p)
	if m == nil || fault != (api.Fault{}) {
		t.Errorf("P11.1: %s: %v, %v", what, m, fault)
	}
	return m
}

// wantFault asks for ErrValid at a place.
func wantFault(t *testing.T, what string, p api.Program, at api.Pos) {
	t.Helper()
	want := api.Fault{Err: api.ErrValid, Line: at.Line, Col: at.Col}
	if m, fault := check.Check(p); m != nil || fault != want {
		t.Errorf("P11.1: %s: %v, %v, want %v", what, m, fault, want)
	}
}

// placeOf is a text without its mark, and the mark's place.
func placeOf(t *testing.T, text string) (string, api.Pos) {
	t.Helper()
	ahead, behind, found := strings.Cut(text, "#")
	if !found {
		t.Fatalf("%q: no mark", text)
	}
	line := strings.Count(ahead, "\n") + 1
	return ahead + behind, api.Pos{Line: line, Col: len(ahead) - strings.LastIndex(ahead, "\n")}
}

func TestExample(t *testing.T) {
	const text = "class A { } class B extends A { } main { var A x; #x = new B; }"
	unmarked, _ := placeOf(t, text)
	wantFits(t, "the example", program(t, unmarked))
	unmarked, at := placeOf(t, strings.Replace(text, " extends A", "", 1))
	wantFault(t, "without extends", program(t, unmarked), at)
	marked, at := placeOf(t, "main { #x = y; }")
	wantFault(t, "variables that are none", program(t, marked), at)
	if at != (api.Pos{Line: 1, Col: 8}) {
		t.Errorf("the document's fifth example is at %v", at)
	}
	wantFits(t, "nothing", program(t, "main { }"))
	wantFits(t, "nothing at all", api.Program{})
}

// worldText are classes that statements are tried in.
const worldText = `
class A { field A f; field int n; field A[] l; static A s; static int c;
  method A m(A a, int i) { return this; } method void v() { } method int o() { var int i; return i; }
  static method A t(A a) { return a; } static method void u() { } }
class B extends A { field B g; static B e; method B k() { return this; } method A m(A x, int y) { return x; } }
interface I { method void q(); }
interface J extends I { method J r(J j); }
class D implements J { field int z; field I h; static I p; method void q() { } method J r(J j) { return this; } }
class E extends D { }
`

// worldVars are variables for statements there, one of each kind.
const worldVars = "var A a; var B b; var I w; var J j; var D d; var E y; var A[] l; var B[] k; var I[] v; var int i; var int n;"

// fitting are statements that fit there.
var fitting = [23][]string{
	api.DoNew:     {"a = new A;", "a = new B;", "b = new B;", "w = new D;", "j = new D;", "w = new E;", "d = new E;"},
	api.DoArray:   {"l = new A[];", "k = new B[];", "v = new I[];"},
	api.DoNull:    {"a = null;", "w = null;", "l = null;", "v = null;"},
	api.DoCopy:    {"a = a;", "a = b;", "w = j;", "w = d;", "j = y;", "d = y;", "l = l;", "v = v;", "i = n;"},
	api.DoCast:    {"b = (B) a;", "a = (B) a;", "a = (A) b;", "a = (A) w;", "w = (I) a;", "w = (J) l;", "j = (E) b;", "l = (A[]) a;", "k = (B[]) l;", "v = (I[]) w;", "y = (E) d;", "a = (B) v;"},
	api.DoLoad:    {"a = a.f;", "a = b.f;", "i = b.n;", "l = a.l;", "a = b.g;", "b = b.g;", "i = d.z;", "i = y.z;", "w = y.h;"},
	api.DoStore:   {"a.f = a;", "a.f = b;", "b.f = a;", "b.g = b;", "b.n = i;", "a.l = l;", "d.h = w;", "d.h = j;", "d.h = y;", "y.z = n;"},
	api.DoGet:     {"a = A::s;", "a = B::s;", "i = A::c;", "n = B::c;", "a = B::e;", "b = B::e;", "w = D::p;", "w = E::p;"},
	api.DoPut:     {"A::s = a;", "A::s = b;", "B::s = a;", "A::c = i;", "B::c = n;", "B::e = b;", "D::p = w;", "E::p = y;"},
	api.DoElem:    {"a = l[i];", "a = k[i];", "b = k[n];", "w = v[i];"},
	api.DoSet:     {"l[i] = a;", "l[n] = b;", "k[i] = b;", "v[i] = w;", "v[i] = j;", "v[i] = d;"},
	api.DoCall:    {"a.m(a, i);", "a.m(b, n);", "a = a.m(a, i);", "a = b.m(b, i);", "b = b.k();", "a = b.k();", "b.k();", "a.v();", "b.v();", "i = b.o();", "w.q();", "j.q();", "d.q();", "y.q();", "j = j.r(j);", "w = j.r(d);", "j = y.r(y);", "d.r(j);"},
	api.DoSpecial: {"a.A::m(a, i);", "a = b.A::m(b, i);", "a = b.B::m(a, n);", "b.A::v();", "b.B::v();", "i = b.B::o();", "b = b.B::k();", "y.D::q();", "y.E::q();", "w = y.D::r(d);", "j = d.D::r(j);"},
	api.DoStatic:  {"A::t(a);", "a = A::t(b);", "a = B::t(a);", "A::u();", "B::u();"},
	api.DoInt:     {"i = 0;", "n = 999;"},
	api.DoAdd:     {"i = i + i;", "i = n + i;"},
	api.DoSub:     {"i = i - i;", "n = i - n;"},
	api.DoInput:   {"i = input;", "n = input;"},
	api.DoThrow:   {"throw a;", "throw b;", "throw d;", "throw y;"},
	api.DoTry:     {"try { } catch (A a) { }", "try { a = b; } catch (B a) { b = null; }", "try { } catch (D w) { }", "try { } catch (E j) { }", "try { try { } catch (A a) { } } catch (B b) { try { } catch (D d) { } }"},
	api.DoIf:      {"if (i < n) { }", "if (i < i) { a = b; } else { i = 1; }", "if (i < n) { } else { if (n < i) { } }"},
	api.DoWhile:   {"while (i < n) { }", "while (n < n) { a = b; while (i < i) { } }"},
	api.DoReturn:  {"return;"},
}

// misfitting are statements that don't fit there, whatever stands around them.
var misfitting = [23][]string{
	api.DoNew:     {"b = new A;", "a = new D;", "w = new I;", "w = new J;", "w = new A;", "y = new D;", "l = new A;", "i = new A;", "x = new A;", "a = new Q;", "a = new a;"},
	api.DoArray:   {"l = new B[];", "k = new A[];", "v = new D[];", "v = new J[];", "a = new A[];", "l = new Q[];", "l = new a[];", "i = new A[];", "x = new A[];"},
	api.DoNull:    {"i = null;", "x = null;"},
	api.DoCopy:    {"b = a;", "a = d;", "a = w;", "d = w;", "j = w;", "y = d;", "k = l;", "l = k;", "v = k;", "a = l;", "l = a;", "i = a;", "a = i;", "x = a;", "a = x;", "x = x;", "a = A;", "A = a;"},
	api.DoCast:    {"b = (A) a;", "a = (D) a;", "a = (I) a;", "j = (I) j;", "l = (B[]) l;", "v = (D[]) v;", "a = (A[]) a;", "l = (A) l;", "a = (Q) a;", "l = (Q[]) a;", "a = (A) i;", "i = (A) a;", "x = (A) a;", "a = (A) x;", "a = (a) a;"},
	api.DoLoad:    {"a = a.g;", "b = b.f;", "i = a.f;", "a = b.n;", "a = a.s;", "a = a.m;", "a = w.f;", "w = w.h;", "w = j.h;", "a = l.f;", "a = i.f;", "a = x.f;", "x = a.f;", "a = A.f;", "l = k.l;", "j = d.h;", "a = a.x;"},
	api.DoStore:   {"a.g = b;", "b.g = a;", "a.f = w;", "a.f = i;", "a.n = a;", "a.s = a;", "a.l = k;", "w.h = w;", "j.h = w;", "d.h = a;", "l.f = a;", "i.n = i;", "x.f = a;", "a.f = x;", "A.f = a;", "a.x = a;"},
	api.DoGet:     {"b = A::s;", "a = A::c;", "i = A::s;", "a = A::e;", "a = A::f;", "a = A::t;", "w = I::p;", "w = J::p;", "j = D::p;", "a = Q::s;", "a = a::s;", "x = A::s;", "a = A::x;"},
	api.DoPut:     {"A::s = w;", "A::c = a;", "A::s = i;", "A::e = b;", "B::e = a;", "A::f = a;", "I::p = w;", "J::p = d;", "D::p = a;", "Q::s = a;", "a::s = a;", "A::s = x;", "A::x = a;"},
	api.DoElem:    {"b = l[i];", "d = v[i];", "i = l[i];", "l = l[i];", "a = l[a];", "a = l[x];", "a = l[l];", "a = a[i];", "i = i[i];", "a = w[i];", "a = x[i];", "x = l[i];", "a = i[l];"},
	api.DoSet:     {"k[i] = a;", "l[i] = w;", "v[i] = a;", "l[i] = i;", "l[i] = l;", "l[a] = a;", "l[x] = a;", "l[l] = a;", "a[i] = a;", "i[i] = i;", "x[i] = a;", "l[i] = x;", "i[l] = a;"},
	api.DoCall:    {"a.k();", "a.m();", "a.m(a);", "a.m(i, a);", "a.m(a, i, i);", "a.m(w, i);", "a.m(a, a);", "a.m(x, i);", "a.m(a, x);", "b = a.m(a, i);", "i = a.m(a, i);", "a = a.v();", "x = a.v();", "a = a.o();", "x = a.m(a, i);", "x.v();", "i.v();", "l.v();", "l.m(a, i);", "A.v();", "a.t(a);", "a.u();", "b.u();", "a.f();", "a.s();", "a.x();", "w.r(j);", "w = w.q();", "d = d.r(d);", "j.r(w);", "y = y.r(y);", "a.v(a);"},
	api.DoSpecial: {"a.B::m(a, i);", "b = b.B::m(a, i);", "b.A::k();", "b.A::m(a);", "b.A::m(a, i, i);", "b.A::m(i, a);", "b.A::m(w, i);", "b.A::m(x, i);", "x.A::v();", "x = b.A::v();", "a = b.A::v();", "x = a.A::m(a, i);", "d.A::v();", "w.D::q();", "l.A::v();", "i.A::v();", "w.I::q();", "d.I::q();", "d.J::q();", "j.J::r(j);", "d.E::q();", "a.A::t(a);", "b.A::u();", "b.Q::v();", "b.a::v();", "b.A::x();", "b.A::f();", "d = y.D::r(y);", "b.A::v(b);"},
	api.DoStatic:  {"A::t();", "A::t(a, a);", "A::t(w);", "A::t(i);", "A::t(x);", "b = A::t(a);", "b = B::t(b);", "a = A::u();", "x = A::u();", "x = A::t(a);", "A::v();", "A::m(a, i);", "B::k();", "D::q();", "D::t(a);", "I::q();", "I::t(a);", "J::u();", "Q::u();", "a::u();", "A::x();", "A::c();", "A::u(a);"},
	api.DoInt:     {"a = 1;", "w = 0;", "l = 2;", "x = 1;"},
	api.DoAdd:     {"a = i + i;", "i = a + i;", "i = i + a;", "i = l + i;", "x = i + i;", "i = x + i;", "i = i + x;", "a = a + a;"},
	api.DoSub:     {"a = i - i;", "i = a - i;", "i = i - a;", "i = i - l;", "x = i - i;", "i = x - i;", "i = i - x;", "b = b - b;"},
	api.DoInput:   {"a = input;", "v = input;", "x = input;"},
	api.DoThrow:   {"throw w;", "throw j;", "throw l;", "throw v;", "throw i;", "throw x;", "throw A;"},
	api.DoTry:     {"try { } catch (A b) { }", "try { } catch (I w) { }", "try { } catch (J w) { }", "try { } catch (Q a) { }", "try { } catch (D a) { }", "try { } catch (A w) { }", "try { } catch (A x) { }", "try { } catch (A i) { }", "try { } catch (A l) { }", "try { } catch (a a) { }"},
	api.DoIf:      {"if (a < i) { }", "if (i < a) { }", "if (x < i) { }", "if (i < x) { }", "if (l < l) { }", "if (w < i) { i = 1; } else { }"},
	api.DoWhile:   {"while (a < i) { }", "while (i < a) { }", "while (x < i) { }", "while (i < x) { }", "while (v < v) { i = 1; }"},
	api.DoReturn:  {"return a;", "return b;", "return i;", "return l;", "return x;"},
}

// settings are what stands around a statement, which has ahead of it a mark.
var settings = []string{
	worldText + "main { " + worldVars + "\n  # }",
	worldText + "main { " + worldVars + " a = b; while (i < n) { if (i < n) { i = 1; } else { try { } catch (A a) { i = 2;\n  # } } }\n b = (B) a; }",
	worldText + "class Z { init { " + worldVars + " # } } main { var A x; }",
	worldText + "class Z { method int m() { var int i; return i; }\n static method void x(A a, B b, I w, J j, D d) { var E y; var A[] l; var B[] k; var I[] v; var int i; var int n;\n # } } main { var A x; }",
	"class Z { method void m(A[] l, B[] k, I[] v, int i, int n) { var A a; var B b; var I w; var J j; var D d; var E y; # i = n; } field A x; }" + worldText + "main { var A x; }",
}

// wantStmt tries a statement in all settings.
func wantStmt(t *testing.T, do int, stmt string, fits bool) {
	t.Helper()
	if s, fault := parse.Stmt(stmt); fault.Err != api.OK || s.Do != do {
		t.Fatalf("%q: %v, %v", stmt, s, fault)
	}
	for i, setting := range settings {
		text, at := placeOf(t, strings.Replace(setting, "#", "#"+stmt, 1))
		if fits {
			if m := wantFits(t, stmt, program(t, text)); m == nil {
				t.Errorf("in setting %d", i)
			}
		} else {
			wantFault(t, stmt, program(t, text), at)
		}
	}
}

func TestStatements(t *testing.T) {
	for do := range 23 {
		for _, stmt := range fitting[do] {
			wantStmt(t, do, stmt, true)
		}
		for _, stmt := range misfitting[do] {
			wantStmt(t, do, stmt, false)
		}
	}
}

// TestThis: it is a variable of its class's type where the method isn't static.
func TestThis(t *testing.T) {
	for _, marked := range []string{
		"class B { } class A extends B { method void m() { var B b; #b = this; b = null; } }",
		"class A { method A m() { #return this; } }",
		"class A { method void m(A a) { #this = a; this = null; this = new A; this = this; } }",
		"class A { field int f; method void m() { var int i; #i = this.f; this.f = i; this.m(); this.A::m(); throw this; } }",
		"class B extends A { method void k() { #try { this = (B) this; } catch (B this) { } } } class A { }",
	} {
		text, at := placeOf(t, marked+" main { }")
		wantFits(t, marked, program(t, text))
		p := program(t, strings.Replace(text, "method", "static method", 1))
		at.Col += len("static ")
		wantFault(t, "static: "+marked, p, at)
	}
	for _, marked := range []string{
		"class B extends A { } class A { method void m() { var B b; #b = this; } } main { }",
		"class B extends A { } class A { method B m() { #return this; } } main { }",
		"class A { method void m() { #this = input; } } main { }",
		"class A { init { #this = this; } } main { }",
		"class A { method void m() { } } main { #this = null; }",
		"class A { method void m() { } } main { var A a; #a = this; }",
	} {
		text, at := placeOf(t, marked)
		wantFault(t, marked, program(t, text), at)
	}
}

// TestReturns: with a variable, and without, by what the method answers.
func TestReturns(t *testing.T) {
	for _, c := range []struct{ ret, fits, misfits string }{
		{"void", "return;", "return a; return b; return i; return l; return w; return x;"},
		{"int", "return i;", "return; return a; return l; return x;"},
		{"A", "return a; return b;", "return; return i; return l; return w; return x;"},
		{"B", "return b;", "return; return a; return i; return w;"},
		{"I", "return w; return b;", "return; return a; return l; return i;"},
		{"A[]", "return l;", "return; return a; return k; return i;"},
		{"B[]", "return k;", "return; return b; return l;"},
	} {
		for _, head := range []string{"method ", "static method "} {
			ahead := "class A { } interface I { } class B extends A implements I { " + head + c.ret + " m(A a, B b, int i) { var A[] l; var B[] k; var I w; "
			for _, stmt := range strings.SplitAfter(c.fits, ";") {
				wantFits(t, c.ret+": "+stmt, program(t, ahead+stmt+" } } main { }"))
			}
			for _, stmt := range strings.SplitAfter(c.misfits, ";") {
				if stmt == "" {
					continue
				}
				text, at := placeOf(t, ahead+"#"+strings.TrimSpace(stmt)+" } } main { }")
				wantFault(t, c.ret+": "+stmt, program(t, text), at)
			}
		}
	}
	wantFits(t, "a method that ends without one", program(t, "class A { method A m() { } } main { }"))
}

// TestMembers: a program that fits has layer 10's.
func TestMembers(t *testing.T) {
	p := program(t, worldText+"main { var A a; a = new B; }")
	m := wantFits(t, "members", p)
	other, _ := member.New(p)
	for class := -1; class <= len(p.Classes); class++ {
		for _, name := range []string{"f", "g", "s", "m", "k", "q", "r", "x"} {
			x, found := m.Method(class, name)
			y, same := other.Method(class, name)
			if found != same || x.Class != y.Class || x.Type != y.Type || !slices.Equal(x.Params, y.Params) {
				t.Errorf("P11.1: Method(%d, %q): %v, want %v", class, name, x, y)
			}
			if x, found := m.Field(class, name); found != slices.ContainsFunc(other.Fields(class), func(y api.Member) bool { return y.Name == x.Name && y.Class == x.Class }) {
				t.Errorf("P11.1: Field(%d, %q): %v, %v", class, name, x, found)
			}
		}
	}
	if !m.Types().Below("E", "I") || m.Types().Below("A", "B") || m.Types().Is("Q") {
		t.Error("P11.1: the types are others")
	}
}
