package parse_test

import (
	"strings"
	"testing"

	"winnower/api"
)

// inClass is a program of a class that has this.
func inClass(members string) string {
	return "class A {" + members + "} main { }"
}

// args are so many names with commas between, the last of them marked.
func args(count int) string {
	return times(count-1, "a, ") + "@a"
}

// params are so many parameters, the last of them marked.
func params(count int, last string) string {
	return times(count-1, "int a, ") + "@" + last
}

// wantBig asks for the program of a text that has as many of something as may be, marked or not, and of one that has one more, its mark at that.
func wantBig(t *testing.T, what, most, more string) {
	t.Helper()
	wantParse(t, "P7.1: as many as may be: "+what, unmarked(most), api.OK)
	wantParse(t, "P7.1: one more: "+what, more, api.ErrBig)
}

func TestBigPrograms(t *testing.T) {
	classes, faces := times(60, "class A { } "), times(60, "interface A { } ")
	wantBig(t, "classes", classes+"main { }", classes+"@class A { } main { }")
	wantBig(t, "interfaces", faces+"main { }", faces+"@interface A { } main { }")
	both := times(30, "interface A { } class A { } ")
	wantBig(t, "both", both+"main { }", both+"@interface A { } main { }")
	wantParse(t, "P7.1: nothing need be behind it", classes+"@class", api.ErrBig)
	wantParse(t, "P7.1: what is behind it doesn't count", classes+"@interface class class", api.ErrBig)
	wantParse(t, "P7.1: no class", classes+"@field", api.ErrSyntax)
	wantParse(t, "P7.1: behind main", classes+"main { } @class A { }", api.ErrSyntax)
}

func TestBigHeads(t *testing.T) {
	wantBig(t, "a class's faces", "class A implements "+args(40)+" { } main { }", "class A implements "+args(41)+" { } main { }")
	wantBig(t, "an interface's faces", "interface A extends "+args(40)+" { } main { }", "interface A extends "+args(41)+" { } main { }")
	for _, last := range []string{"int a", "A a", "A[] a"} {
		wantBig(t, "a signature's params", "interface A { method void m("+params(40, last)+"); } main { }", "interface A { method void m("+params(41, last)+"); } main { }")
		wantBig(t, "a method's params", inClass("method void m("+params(40, last)+") { }"), inClass("method void m("+params(41, last)+") { }"))
		wantBig(t, "a static method's params", inClass("static method void m("+params(40, last)+") { }"), inClass("static method void m("+params(41, last)+") { }"))
	}
	wantParse(t, "P7.1: nothing need be behind it", "class A implements "+args(41), api.ErrBig)
	wantParse(t, "P7.1: nothing need be behind it", "interface A { method void m("+params(41, "int"), api.ErrBig)
	wantParse(t, "P7.1: what is behind it doesn't count", "interface A { method void m("+params(41, "int int"), api.ErrBig)
	wantParse(t, "P7.1: no face", "class A implements "+times(40, "a, ")+"@{ } main { }", api.ErrSyntax)
	wantParse(t, "P7.1: no face", "class A implements "+times(40, "a, ")+"@int", api.ErrSyntax)
	wantParse(t, "P7.1: no face yet", "class A implements "+times(40, "a, ")+"@", api.ErrSyntax)
	wantParse(t, "P7.1: no param", inClass("method void m("+params(41, ") { }")), api.ErrSyntax)
	wantParse(t, "P7.1: no param", inClass("method void m("+params(41, "void a) { }")), api.ErrSyntax)
	wantParse(t, "P7.1: no param yet", "class A { method void m("+params(41, ""), api.ErrSyntax)
}

func TestBigMembers(t *testing.T) {
	fields, statics, methods := times(40, "field A f;"), times(40, "static A s;"), times(20, "method void m() { } static method A m() { }")
	all := times(40, "field A f; static A s; method void m() { }")
	wantBig(t, "fields", inClass(fields), inClass(fields+"@field A f;"))
	wantBig(t, "statics", inClass(statics), inClass(statics+"@static A s;"))
	wantBig(t, "methods", inClass(methods), inClass(methods+"@method void m() { }"))
	wantBig(t, "all of them, and an init", inClass(all+"init { }"), inClass(all+"init { } @field A f;"))
	wantParse(t, "P7.1: one more static", inClass(all+"@static A s;"), api.ErrBig)
	wantParse(t, "P7.1: one more method", inClass(all+"@method A s() { }"), api.ErrBig)
	wantParse(t, "P7.1: one more static method", inClass(all+"@static method A s() { }"), api.ErrBig)
	signatures := times(40, "method A f();")
	wantBig(t, "an interface's methods", "interface A {"+signatures+"} main { }", "interface A {"+signatures+"@method void m(); } main { }")
	wantParse(t, "P7.1: of each class by itself", times(2, "class A {"+fields+methods+"} interface I {"+signatures+"} ")+"main { }", api.OK)
	wantParse(t, "P7.1: a second init", inClass(all+"init { } @init { }"), api.ErrSyntax)
	wantParse(t, "P7.1: one more behind a second init", inClass(fields+"init { } @init { } field A f;"), api.ErrSyntax)
	wantParse(t, "P7.1: nothing need be behind it", "class A {"+fields+"@field", api.ErrBig)
	wantParse(t, "P7.1: what is behind it doesn't count", inClass(methods+"@method method"), api.ErrBig)
	wantParse(t, "P7.1: no member", inClass(all+"@var A x;"), api.ErrSyntax)
	wantParse(t, "P7.1: no member of an interface", "interface I {"+signatures+"@static method A f(); } main { }", api.ErrSyntax)
}

// TestBigStatic: static is a static's, unless method stands behind it.
func TestBigStatic(t *testing.T) {
	statics, methods := times(40, "static A s;"), times(40, "method void m() { }")
	wantParse(t, "P7.1: a method, not a static", inClass(statics+"static method void m() { }"), api.OK)
	wantParse(t, "P7.1: a static, not a method", inClass(methods+"static A s;"), api.OK)
	for _, behind := range []string{"", ";", "static", "}", "int", "void", "field A f;", "init { }", "1", "main"} {
		wantParse(t, "P7.1: one more static", "class A {"+statics+"@static "+behind, api.ErrBig)
		wantParse(t, "P7.1: both are full", "class A {"+statics+methods+"@static "+behind, api.ErrBig)
	}
	wantParse(t, "P7.1: no method", "class A {"+methods+"static @", api.ErrSyntax)
	wantParse(t, "P7.1: no method", "class A {"+methods+"static @;", api.ErrSyntax)
	wantParse(t, "P7.1: no method", "class A {"+methods+"static @static method void m() { } } main { }", api.ErrSyntax)
	wantParse(t, "P7.1: one more method", "class A {"+methods+"@static method", api.ErrBig)
	wantParse(t, "P7.1: no static", "class A {"+statics+"static method@", api.ErrSyntax)
	wantParse(t, "P7.1: both are full", "class A {"+statics+methods+"@static method", api.ErrBig)
}

// blocks are heads and feet of methods' blocks.
var blocks = [][2]string{
	{"main {", "}"}, {"class A { init {", "} } main { }"}, {"class A { method A m() {", "} } main { }"}, {"class A { static method A m() {", "} } main { }"},
}

// nests are statements with blocks: what stands in one of them goes in place of %.
var nests = []string{
	"try {%} catch (T x) { return; }", "try { return; } catch (T x) {%}", "if (a < b) {%}", "if (a < b) {%} else { return; }", "if (a < b) { return; } else {%}", "while (a < b) {%}",
}

// in is a statement with a block that has this.
func in(nest, inside string) string {
	return strings.Replace(nest, "%", inside, 1)
}

func TestBigBlocks(t *testing.T) {
	locals, stmts := times(40, "var A x;"), times(8, "x = y; throw x; return; y.f(); T::f = x;")
	begun := []string{"x = y;", "x.f();", "T::f();", "throw x;", "return;", "try { } catch (T x) { }", "if (a < b) { }", "while (a < b) { }", "x", "x(", "throw ;", "return 1", "try;", "if if", "while"}
	for _, b := range blocks {
		wantBig(t, "locals", b[0]+locals+b[1], b[0]+locals+"@var A x;"+b[1])
		wantParse(t, "P7.1: no local", b[0]+locals+"@field A x;"+b[1], api.ErrSyntax)
		for _, stmt := range begun {
			wantBig(t, "statements", b[0]+locals+stmts+b[1], b[0]+locals+stmts+"@"+stmt+b[1])
		}
		for _, nest := range nests {
			wantBig(t, "statements of a block in it", b[0]+in(nest, stmts)+b[1], b[0]+in(nest, stmts+"@return;")+b[1])
			wantBig(t, "statements, blocks in them", b[0]+times(39, "return;")+in(nest, stmts)+b[1], b[0]+times(39, "return;")+in(nest, stmts)+"@return;"+b[1])
		}
		for _, other := range []string{"var A x;", ";", "else { }", "1", "init { }"} {
			wantParse(t, "P7.1: no statement", b[0]+locals+stmts+"@"+other+b[1], api.ErrSyntax)
		}
	}
}

func TestBigArgs(t *testing.T) {
	for _, call := range []string{"y.f(%);", "x = y.f(%);", "y.T::f(%);", "x = y.T::f(%);", "T::f(%);", "x = T::f(%);"} {
		wantStmt(t, "P7.2: as many args as may be", in(call, unmarked(args(40))), api.OK)
		wantStmt(t, "P7.2: one more arg", in(call, args(41)), api.ErrBig)
		wantStmt(t, "P7.2: one more arg, and more behind it", in(call, args(41)+", a"), api.ErrBig)
		wantStmt(t, "P7.2: no arg", in(call, times(40, "a, ")+"@1"), api.ErrSyntax)
		wantStmt(t, "P7.2: no arg", in(call, times(40, "a, ")+"@"), api.ErrSyntax)
		wantBig(t, "args", "main {"+in(call, args(40))+"}", "main {"+in(call, args(41))+"}")
		wantParse(t, "P7.1: of each call by itself", "main {"+times(2, in(call, times(39, "a, ")+"a"))+"}", api.OK)
	}
}

// unmarked is a text without its mark.
func unmarked(text string) string {
	return strings.ReplaceAll(text, "@", "")
}

// innermost is a statement with empty blocks, the first brace of it marked.
func innermost(nest string) string {
	return strings.Replace(in(nest, ""), "{", "@{", 1)
}

// deep is a statement of that nest in itself, its innermost blocks that deep, the first brace of these marked.
func deep(nest string, depth int) string {
	text := innermost(nest)
	for range depth - 1 {
		text = in(nest, text)
	}
	return text
}

func TestDeepBlocks(t *testing.T) {
	for _, nest := range nests {
		most, more := deep(nest, 8), deep(nest, 9)
		for _, b := range blocks {
			wantBig(t, "blocks in blocks", b[0]+most+b[1], b[0]+more+b[1])
			wantBig(t, "blocks in blocks, behind others", b[0]+times(3, most)+b[1], b[0]+unmarked(most)+more+b[1])
		}
		wantStmt(t, "P7.2: as deep as may be", unmarked(most), api.OK)
		wantStmt(t, "P7.2: too deep", more, api.ErrBig)
		ahead := more[:strings.Index(more, "@")]
		wantStmt(t, "P7.2: too deep, and deeper", ahead+"@{"+unmarked(most)+"}", api.ErrBig)
		wantStmt(t, "P7.2: too deep, nothing behind it", ahead+"@{", api.ErrBig)
		wantStmt(t, "P7.2: too deep, what is behind it doesn't count", ahead+"@{ {", api.ErrBig)
		wantStmt(t, "P7.2: too deep, but no brace", ahead+"@x = y;", api.ErrSyntax)
		wantStmt(t, "P7.2: too deep, but no brace yet", ahead+"@", api.ErrSyntax)
	}
}

// TestMixedNests has blocks of all kinds in each other: all count.
func TestMixedNests(t *testing.T) {
	for first := range nests {
		text := innermost(nests[first])
		for i := range 8 {
			if i == 7 {
				wantStmt(t, "P7.2: as deep as may be", unmarked(text), api.OK)
			}
			text = in(nests[(first+i)%len(nests)], text)
		}
		wantStmt(t, "P7.2: too deep", text, api.ErrBig)
	}
}

func TestFirstOfTwoFaults(t *testing.T) {
	stmts := times(40, "return;")
	wantParse(t, "P7.1: syntax ahead of big", "main { x @x; "+stmts+"return; }", api.ErrSyntax)
	wantParse(t, "P7.1: big ahead of syntax", "main {"+stmts+"@return; x x; }", api.ErrBig)
	wantParse(t, "P7.1: big ahead of an end", "main {"+stmts+"@return", api.ErrBig)
	loop := unmarked(deep("while (a < b) {%}", 8))
	wantParse(t, "P7.1: a statement ahead of its block", "main {"+strings.Replace(loop, "{}", "{"+stmts+"@while (a < b) { } }", 1)+"}", api.ErrBig)
	wantParse(t, "P7.1: a block ahead of its statements", "main {"+strings.Replace(loop, "{}", "{ while (a < b) @{"+stmts+"return; } }", 1)+"}", api.ErrBig)
	wantParse(t, "P7.1: a method ahead of its params", inClass(times(40, "method A m() { }")+"@method A m("+times(41, "A a, ")), api.ErrBig)
	wantParse(t, "P7.1: a class ahead of its faces", times(60, "class A { }")+"@class A implements "+times(41, "A, "), api.ErrBig)
}
