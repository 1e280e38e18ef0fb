package parse_test

import (
	"strings"
	"testing"

	"winnower/api"
)

func TestLexFaults(t *testing.T) {
	wantParse(t, "P7.1: layer 5's", "main { @$ }", api.ErrSyntax)
	wantParse(t, "P7.1: layer 5's", "main { x = @1000; }", api.ErrBig)
	wantParse(t, "P7.1: layer 5's, not the one ahead", "} } }\n@$", api.ErrSyntax)
	wantParse(t, "P7.1: layer 5's, not the one ahead", "main { x x; } @"+times(33, "a"), api.ErrBig)
	wantParse(t, "P7.1: layer 5's, not the one ahead", "main {"+times(41, "return;")+"@: }", api.ErrSyntax)
	wantParse(t, "P7.1: too long a text", "@main { }"+times(20000, " "), api.ErrBig)
	wantParse(t, "P7.1: a text as long as may be", "main { }"+times(19992, " "), api.OK)
	wantStmt(t, "P7.2: layer 5's", "x = @1000;", api.ErrBig)
	wantStmt(t, "P7.2: layer 5's, not the one ahead", "; x = @?;", api.ErrSyntax)
	wantStmt(t, "P7.2: too long a text", "@return;"+times(20000, "\n"), api.ErrBig)
}

// badPrograms are texts that no program goes on as from their mark on; so are the others of this file.
var badPrograms = []string{
	"@x", "@}", "@{ }", "@1", "@field int f; main { }", "@init { }", "main @main { }", "main @x", "main @( ) { }", "main { } @main { }", "main { } @class A { }", "main { } @x", "main { }@}", "main { @", "main@",
	"class @{ } main { }", "class @int { } main { }", "class @1", "class A@", "class A @B { } main { }", "class A @; main { }", "class A { @; } main { }", "class A@[] { }", "class A { } @}", "class A { }@",
	"class A extends @{ } main { }", "class A extends @void { } main { }", "class A extends B@, C { } main { }", "class A extends B@[] { }", "class A extends B @extends C { } main { }", "class A extends @implements I { } main { }",
	"class A implements @{ } main { }", "class A implements I @J { } main { }", "class A implements I, @{ } main { }", "class A implements I, @, J { } main { }", "class A implements I @extends B { } main { }", "class A implements I @implements J { } main { }", "class A implements I,@",
	"interface @{ } main { }", "interface I @implements J { } main { }", "interface I extends @{ } main { }", "interface I extends J, K@.L", "interface I extends J, K @implements L { }", "interface I extends J @extends K { }",
	"interface I { @field int f; } main { }", "interface I { @static method void m(); } main { }", "interface I { @init { } } main { }", "interface I { @class", "interface I { method void m() @{ } } main { }", "interface I { method void m@; } main { }", "interface I { method void m()@",
}

var badMembers = []string{
	"field @;", "field int @;", "field int f@", "field int f @= x;", "field int f@, g;", "field @void f;", "field int@[] f;", "field A[@x] f;", "field A[]@[] f;", "field A @int;", "field A @init;", "field @method void m() { }", "field @static int f;",
	"static @;", "static @field int f;", "static @static int f;", "static @init { }", "static @void f;", "static int f @( ) { }", "static int@", "static@", "static int@[] f;", "static A f @{ }", "static method@", "static method void m@;",
	"method @() { }", "method m@() { }", "method void @() { }", "method void m @{ }", "method void m() @;", "method void@[] m() { }", "method int@[] m() { }", "method @static void m() { }", "method void @main() { }", "method void @init() { }", "method A[] @[] m() { }", "method@",
	"method void m(x@) { }", "method void m(int@) { }", "method void m(int x @int y) { }", "method void m(int x, @) { }", "method void m(@, int x) { }", "method void m(@void x) { }", "method void m(@var int x) { }", "method void m(int x@; ) { }", "method void m(int @int) { }", "method void m(A[] @) { }", "method void m(A[@) { }", "method void m(A [] @, B b) { }",
	"init@", "init @( ) { }", "init @;", "init { } @;", "init { } @init { }", "init { } field int f; static method void m() { } @init { }", "init { } @init", "@extends", "@new", "@A f;", "@int f;", "@void m() { }", "@{ }", "@main { }", "@var int x;", "@x = y;", "@interface I { }", "@class B { }",
}

var badBlocks = []string{
	"var @;", "var x@;", "var int x @y;", "var int@[] x;", "var @void x;", "var int x @= y;", "var int x@, y;", "return; @var int x;", "x = y; @var int x;", "var int x; return; @var int y;", "while (a < b) { @var int x; }", "try { } catch (T x) { @var int x; }", "if (a < b) { } else { @var int x; }",
	"@;", "@{ }", "return; @;", "@else { }", "@catch (T x) { }", "@class", "@field int f;", "@1 = x;", "@= x;", "@(x) y;", "@int x;", "@new T;", "@null;", "@input;", "x @}", "this @}", "@static", "@init { }", "@main { }", "if (a < b) { } else { } @else { }",
}

var badStmts = []string{
	"@", "@;", "@}", "@{ }", "@var int x;", "@main { }", "@else { }", "@catch", "@1;", "@int = x;", "@void", "x@", "x @;", "x @x;", "x @(y);", "x @+ y;", "x @];", "x @< y;", "x @, y = z;",
	"x = @;", "x = @=", "x = @)", "x = @int;", "x = @throw y;", "x = y@", "x = y @y;", "x = y @= z;", "x = y @(a);", "x = @-1;", "x = 1 @+ y;", "x = 1@.f;", "x = 1 @2;", "x = y + @1;", "x = y + z @+ a;", "x = y - @- z;", "x = y + @;", "x = y @< z;", "x = y@, z;",
	"x = new @;", "x = new @int;", "x = new @1;", "x = new T @();", "x = new T[@z];", "x = new T[] @[];", "x = new T@.f;", "x = new T@::f;", "x = null @null;", "x = null@.f;", "x = null @+ y;", "x = input @();", "x = input @+ y;", "x = input@[y];",
	"x = (@) y;", "x = (@int) y;", "x = (@void) y;", "x = (T @y;", "x = (T[@z]) y;", "x = (T[]@[]) y;", "x = (T) @;", "x = (T) @(T) y;", "x = (T) y@.f;", "x = (T) @1;", "x = (T) @null;", "x = (T) y @+ z;", "x = (T@::f) y;", "x = (T@.f);",
	"x = y.@;", "x = y.@int;", "x = y.@1;", "x = y.f@.g;", "x = y.f@[z];", "x = y.f @+ z;", "x = y.f @= z;", "x = y.f() @.g();", "x = y.T::f@;", "x = y.T::f @= z;", "x = y.T::@;", "x = y.T::f@::g();", "x = y.T::f() @+ z;",
	"x = y.f(a@", "x = y.f(a @b);", "x = y.f(a, @);", "x = y.f(@, a);", "x = y.f(@1);", "x = y.f(@null);", "x = y.f(a@.b);", "x = y.f(@int a);", "x = y.f(a) @b;", "x = y.f(y@.f());", "x = y.f@",
	"x = T::@;", "x = T::@1;", "x = T::@new;", "x = T::f @= y;", "x = T::f@::g;", "x = T::f@.g;", "x = T::f@[y];", "x = T::f(@;", "x = T::f() @();", "x = T[@]::f;", "x = y[@];", "x = y[@1];", "x = y[z@.f];", "x = y[z] @= a;", "x = y[z]@[a];", "x = y[z]@.f;", "x = y[z@;", "x = y[@int];", "x = y[z @+ a];",
	"x.@;", "x.@1 = y;", "x.@if = y;", "x.f@;", "x.f @y;", "x.f = @;", "x.f = @1;", "x.f = @new T;", "x.f = @null;", "x.f = @(T) y;", "x.f = y@.g;", "x.f = y @+ z;", "x.f = y@(a);", "x.f@.g = y;", "x.f@[y] = z;", "x.f(a) @= y;", "x.T::f@;", "x.T::f @= y;", "x.T::f(@;", "x.T::f() @= y;", "x.f(a)@", "x.f(a, b, @);", "x.f()@",
	"T::@;", "T::@1 = y;", "T::f@;", "T::f = @;", "T::f = @1;", "T::f = y@.g;", "T::f = @null;", "T::f@.g = y;", "T::f@::g = y;", "T::f(a @= y;", "T::f() @= y;", "T::f(@;", "T::f@[y] = z;", "T::f = y@::g;", "T[@]::f();",
	"x[@] = y;", "x[@1] = y;", "x[z @= y;", "x[z] @;", "x[z] @y;", "x[z] = @;", "x[z] = @1;", "x[z] = @null;", "x[z] = y@[z];", "x[z] = y @+ a;", "x[z]@[a] = y;", "x[z]@.f = y;", "x[z@.f] = y;", "x[z] = @new T;",
	"throw @;", "throw @1;", "throw @new T;", "throw @null;", "throw x@.f;", "throw x @y;", "throw @throw x;", "throw x@", "return @1;", "return @null;", "return @return;", "return x @y;", "return x@.f;", "return x @+ y;", "return@", "return @(x);", "return @}", "return x@, y;",
	"try @x = y;", "try @(T x) { }", "try { } @", "try { } @{ }", "try { } @else { }", "try { } @try { }", "try { } catch @{ }", "try { } catch (@) { }", "try { } catch (T@) { }", "try { } catch (@int x) { }", "try { } catch (T@[] x) { }", "try { } catch (T x@, U y) { }", "try { } catch (T x @{ }",
	"try { } catch (T x) @x = y;", "try { } catch (T x) { } @catch (T x) { }", "try { } catch (T @void) { }", "try @;", "try { @", "try { @; } catch (T x) { }", "try { } catch (T x) { @", "try { return @} catch (T x) { }",
	"if @a < b { }", "if (@) { }", "if (a@) { }", "if (a @= b) { }", "if (a < @) { }", "if (a < b @< c) { }", "if (a < @1) { }", "if (@1 < a) { }", "if (a@.f < b) { }", "if (a @+ b < c) { }", "if (a < b) @return;", "if (a < b) @;", "if (a < b) { @", "if (a < b) { } @return;", "if (a < b) { }@;",
	"if (a < b) { } else @return;", "if (a < b) { } else @if (a < b) { }", "if (a < b) { } @catch", "if (a < b) { } else { } @else { }", "if (a < b) { } else { @", "if (a < b) { } else@",
	"while @a < b { }", "while (@) { }", "while (a @) { }", "while (a < @) { }", "while (a < b @{ }", "while (a < b) @return;", "while (a < b) @;", "while (a < b) { } @else { }", "while (@null < b) { }", "while (a < b) { } @while (a < b) { }", "while (a < b) { return @}", "while (a < b) { @{ } }", "while (a < b) @",
	"x = y; @x = y;", "return; @return;", "return;@;", "x = y;@}", "x.f(); @main { }",
}

func TestSyntaxOfPrograms(t *testing.T) {
	for _, text := range badPrograms {
		wantParse(t, "P7.1: syntax", text, api.ErrSyntax)
	}
}

func TestSyntaxOfMembers(t *testing.T) {
	for _, member := range badMembers {
		text := "class A { field int a; " + member
		if !strings.HasSuffix(member, "@") {
			text += " } main { }"
		}
		wantParse(t, "P7.1: a member's syntax", text, api.ErrSyntax)
	}
}

func TestSyntaxOfBlocks(t *testing.T) {
	for _, head := range []string{"main {", "class A { init {", "class A { static method void m() {", "class A { method int m(int p) {"} {
		for _, block := range badBlocks {
			wantParse(t, "P7.1: a block's syntax", head+" "+block+" }", api.ErrSyntax)
		}
	}
}

func TestSyntaxOfStmts(t *testing.T) {
	for _, text := range badStmts {
		wantStmt(t, "P7.2: syntax", text, api.ErrSyntax)
		wantStmt(t, "P7.2: syntax, on other lines", "\n# x = y;\n "+text, api.ErrSyntax)
	}
}

func TestKeywordsAreNoNames(t *testing.T) {
	for _, word := range strings.Fields("class extends implements interface field static method init main var new null input throw try catch if else while return int void") {
		for _, form := range []string{
			"class @K { }", "class A extends @K { }", "class A implements @K { }", "class A implements I, @K { }", "interface @K { }", "interface I extends @K { }",
			"class A { field A @K; }", "class A { static A @K; }", "class A { method A @K() { } }", "class A { method A m(A @K) { } }", "interface A { method A @K(); }",
		} {
			wantParse(t, "P7.1: a keyword in place of a name", strings.Replace(form, "K", word, 1)+" main { }", api.ErrSyntax)
		}
		for _, form := range []string{
			"x.@K = y;", "x.f(a, @K);", "x = T::@K;", "x = y.@K;", "x = y.T::@K();", "x = y[@K];", "x = y + @K;", "x = y - @K;", "x[@K] = y;", "x[z] = @K;", "x.f = @K;", "T::f = @K;",
			"try { } catch (@K x) { }", "try { } catch (T @K) { }", "if (@K < y) { }", "while (x < @K) { }", "throw @K;", "return @K;", "x = (@K) y;", "x = (T) @K;", "x = new @K;",
		} {
			wantStmt(t, "P7.2: a keyword in place of a name", strings.Replace(form, "K", word, 1), api.ErrSyntax)
		}
	}
	for _, word := range []string{"this", "Class", "_", "x1", "classes", times(32, "n"), "INT"} {
		text := "class K extends K implements K, K { field K K; static K[] K; method K K(K K) { } } main { var K K; K = new K; K.K::K(K, K); }"
		wantParse(t, "P7.1: a name", strings.ReplaceAll(text, "K", word), api.OK)
	}
}
