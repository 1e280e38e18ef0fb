package parse_test

import (
	"reflect"
	"strings"
	"testing"

	"winnower/api"
	"winnower/lex"
	"winnower/parse"
)

// short keeps what a failing test tells readable.
func short(s string) string {
	if len(s) > 160 {
		return s[:80] + " .. " + s[len(s)-80:]
	}
	return s
}

// times is a piece of a text so many times.
func times(count int, piece string) string {
	return strings.Repeat(piece, count)
}

// place is that of an octet of a text.
func place(text string, octet int) api.Pos {
	ahead := text[:octet]
	return api.Pos{Line: 1 + strings.Count(ahead, "\n"), Col: octet - strings.LastIndex(ahead, "\n")}
}

// marked is a text without its mark @, and a fault where that stands; none without one.
func marked(text string, err api.Errno) (string, api.Fault) {
	octet := strings.Index(text, "@")
	if octet < 0 {
		return text, api.Fault{}
	}
	at := place(text, octet)
	return text[:octet] + text[octet+1:], api.Fault{Err: err, Line: at.Line, Col: at.Col}
}

// wantParse asks for the program of a text, with a fault at its mark, if it has one.
func wantParse(t *testing.T, what, text string, err api.Errno) {
	t.Helper()
	s, want := marked(text, err)
	got, fault := parse.Parse(s)
	if fault != want {
		t.Errorf("%s: %q: fault %v, want %v", what, short(text), fault, want)
	}
	if want != (api.Fault{}) && !reflect.DeepEqual(got, api.Program{}) {
		t.Errorf("%s: %q: a program beside a fault", what, short(text))
	}
}

// wantStmt asks for the statement of a text, likewise.
func wantStmt(t *testing.T, what, text string, err api.Errno) {
	t.Helper()
	s, want := marked(text, err)
	got, fault := parse.Stmt(s)
	if fault != want {
		t.Errorf("%s: %q: fault %v, want %v", what, short(text), fault, want)
	}
	if want != (api.Fault{}) && !reflect.DeepEqual(got, api.Stmt{}) {
		t.Errorf("%s: %q: a statement beside a fault", what, short(text))
	}
}

func TestExamples(t *testing.T) {
	p, fault := parse.Parse("main { }")
	if len(p.Classes) != 0 || fault != (api.Fault{}) {
		t.Errorf("P7.1: the example: %v, %v", p, fault)
	}
	if _, fault := parse.Parse("main {"); fault != (api.Fault{Err: api.ErrSyntax, Line: 1, Col: 7}) {
		t.Errorf("P7.1: the other example: %v", fault)
	}
}

// forms are texts of statements, and what they are, places in blocks aside.
func forms() map[string]api.Stmt {
	throw, back := api.Stmt{Do: api.DoThrow, X: "e"}, api.Stmt{Do: api.DoReturn}
	return map[string]api.Stmt{
		"x = new T;":             {Do: api.DoNew, X: "x", T: "T"},
		"x = new T[];":           {Do: api.DoArray, X: "x", T: "T"},
		"x = null;":              {Do: api.DoNull, X: "x"},
		"x = y;":                 {Do: api.DoCopy, X: "x", Y: "y"},
		"x = (T) y;":             {Do: api.DoCast, X: "x", T: "T", Y: "y"},
		"x = (T[]) y;":           {Do: api.DoCast, X: "x", T: "T[]", Y: "y"},
		"x = ( T [ ] ) y ;":      {Do: api.DoCast, X: "x", T: "T[]", Y: "y"},
		"x = y.f;":               {Do: api.DoLoad, X: "x", Y: "y", F: "f"},
		"x.f = y;":               {Do: api.DoStore, X: "x", F: "f", Y: "y"},
		"x = T::f;":              {Do: api.DoGet, X: "x", T: "T", F: "f"},
		"T::f = y;":              {Do: api.DoPut, T: "T", F: "f", Y: "y"},
		"x = y[z];":              {Do: api.DoElem, X: "x", Y: "y", Z: "z"},
		"x[z] = y;":              {Do: api.DoSet, X: "x", Z: "z", Y: "y"},
		"y.f();":                 {Do: api.DoCall, Y: "y", F: "f"},
		"y.f(a);":                {Do: api.DoCall, Y: "y", F: "f", Args: []string{"a"}},
		"x = y.f();":             {Do: api.DoCall, X: "x", Y: "y", F: "f"},
		"x = y.f(a, b);":         {Do: api.DoCall, X: "x", Y: "y", F: "f", Args: []string{"a", "b"}},
		"y.T::f();":              {Do: api.DoSpecial, Y: "y", T: "T", F: "f"},
		"x = y.T::f(a, b, a);":   {Do: api.DoSpecial, X: "x", Y: "y", T: "T", F: "f", Args: []string{"a", "b", "a"}},
		"T::f(a);":               {Do: api.DoStatic, T: "T", F: "f", Args: []string{"a"}},
		"x = T::f();":            {Do: api.DoStatic, X: "x", T: "T", F: "f"},
		"x = 0;":                 {Do: api.DoInt, X: "x"},
		"x = 007;":               {Do: api.DoInt, X: "x", N: 7},
		"x = 010;":               {Do: api.DoInt, X: "x", N: 10},
		"x = 999;":               {Do: api.DoInt, X: "x", N: 999},
		"x = y + z;":             {Do: api.DoAdd, X: "x", Y: "y", Z: "z"},
		"x = y - z;":             {Do: api.DoSub, X: "x", Y: "y", Z: "z"},
		"x = input;":             {Do: api.DoInput, X: "x"},
		"throw x;":               {Do: api.DoThrow, X: "x"},
		"return;":                {Do: api.DoReturn},
		"return x;":              {Do: api.DoReturn, X: "x"},
		"this=this.this(this);":  {Do: api.DoCall, X: "this", Y: "this", F: "this", Args: []string{"this"}},
		"try{}catch(T x){}":      {Do: api.DoTry, T: "T", X: "x"},
		"if(y<z){}":              {Do: api.DoIf, Y: "y", Z: "z"},
		"if (y < z) { } else {}": {Do: api.DoIf, Y: "y", Z: "z"},
		"while(y<z){}":           {Do: api.DoWhile, Y: "y", Z: "z"},
		"try { throw e; return; } catch (T x) { return; }":  {Do: api.DoTry, T: "T", X: "x", Body: []api.Stmt{throw, back}, Other: []api.Stmt{back}},
		"if (y < z) { throw e; }":                           {Do: api.DoIf, Y: "y", Z: "z", Body: []api.Stmt{throw}},
		"if (y < z) { } else { return; }":                   {Do: api.DoIf, Y: "y", Z: "z", Other: []api.Stmt{back}},
		"if (y < z) { throw e; } else { return; throw e; }": {Do: api.DoIf, Y: "y", Z: "z", Body: []api.Stmt{throw}, Other: []api.Stmt{back, throw}},
		"while (y < z) { while (y < z) { throw e; } }":      {Do: api.DoWhile, Y: "y", Z: "z", Body: []api.Stmt{{Do: api.DoWhile, Y: "y", Z: "z", Body: []api.Stmt{throw}}}},
	}
}

func TestForms(t *testing.T) {
	for text, want := range forms() {
		got, fault := parse.Stmt(text)
		if fault != (api.Fault{}) || !reflect.DeepEqual(placelessStmt(got), want) {
			t.Errorf("P7.2: %q: %v, %v, want %v", text, got, fault, want)
		}
		if got.At != (api.Pos{Line: 1, Col: 1}) {
			t.Errorf("P7.2: %q: at %v", text, got.At)
		}
		p, fault := parse.Parse("main {\n  " + text + "\n" + text + " }")
		if fault != (api.Fault{}) || len(p.Main.Body) != 2 || !reflect.DeepEqual(placelessStmt(p.Main.Body[0]), want) || !reflect.DeepEqual(placelessStmt(p.Main.Body[1]), want) {
			t.Fatalf("P7.1: %q: %v, %v, want %v", text, p.Main.Body, fault, want)
		}
		if p.Main.Body[0].At != (api.Pos{Line: 2, Col: 3}) || p.Main.Body[1].At != (api.Pos{Line: 3, Col: 1}) {
			t.Errorf("P7.1: %q: at %v, %v", text, p.Main.Body[0].At, p.Main.Body[1].At)
		}
	}
}

// TestFormsHaveNoOther has each form with one token less, twice, or another one in its place: what the grammar's model says of it is asked.
func TestFormsHaveNoOther(t *testing.T) {
	for text := range forms() {
		tokens := texts(t, text)
		for i := range tokens {
			wantModel(t, "stmt", append(append([]string{}, tokens[:i]...), tokens[i+1:]...))
			wantModel(t, "stmt", append(append([]string{}, tokens[:i+1]...), tokens[i:]...))
			for _, other := range vocabulary {
				wantModel(t, "stmt", append(append(append([]string{}, tokens[:i]...), other), tokens[i+1:]...))
			}
		}
	}
}

const wholeText = `
interface I { }
interface J extends I, K {
  method T [] get();
  method void set(T[] a, int i, T t);
}
class A { }   class B extends A { }
class C implements I { }
class D extends A implements I, J {
  method A m(A p) {
    var A a; var int i;
    try { throw e; } catch (T x) {
      return;
    }
    return a;
  }
  static
  B[] s;
  field A f;
  init { var B[] x; x = new T[]; }
  static method int n() { }
  field
    int n;
}
main { # the last
  var int i;
  if (i < j) { } else { i = 1; }
}
`

func whole() api.Program {
	at := func(line, col int) api.Pos { return api.Pos{Line: line, Col: col} }
	return api.Program{
		Classes: []api.Class{
			{Name: "I", Face: true, At: at(2, 1)},
			{Name: "J", Face: true, Faces: []string{"I", "K"}, At: at(3, 1), Methods: []api.Method{
				{Ret: "T[]", Name: "get", Bare: true, At: at(4, 3)},
				{Ret: "void", Name: "set", Bare: true, At: at(5, 3), Params: []api.Var{{Type: "T[]", Name: "a", At: at(5, 19)}, {Type: "int", Name: "i", At: at(5, 26)}, {Type: "T", Name: "t", At: at(5, 33)}}},
			}},
			{Name: "A", At: at(7, 1)}, {Name: "B", Super: "A", At: at(7, 15)}, {Name: "C", Faces: []string{"I"}, At: at(8, 1)},
			{Name: "D", Super: "A", Faces: []string{"I", "J"}, At: at(9, 1),
				Fields:  []api.Var{{Type: "A", Name: "f", At: at(19, 9)}, {Type: "int", Name: "n", At: at(23, 5)}},
				Statics: []api.Var{{Type: "B[]", Name: "s", At: at(18, 3)}},
				Init: &api.Method{Ret: "void", Name: "init", Static: true, At: at(20, 3), Locals: []api.Var{{Type: "B[]", Name: "x", At: at(20, 14)}},
					Body: []api.Stmt{{Do: api.DoArray, X: "x", T: "T", At: at(20, 21)}}},
				Methods: []api.Method{
					{Ret: "A", Name: "m", At: at(10, 3), Params: []api.Var{{Type: "A", Name: "p", At: at(10, 14)}},
						Locals: []api.Var{{Type: "A", Name: "a", At: at(11, 9)}, {Type: "int", Name: "i", At: at(11, 18)}},
						Body: []api.Stmt{
							{Do: api.DoTry, T: "T", X: "x", At: at(12, 5), Body: []api.Stmt{{Do: api.DoThrow, X: "e", At: at(12, 11)}}, Other: []api.Stmt{{Do: api.DoReturn, At: at(13, 7)}}},
							{Do: api.DoReturn, X: "a", At: at(15, 5)},
						}},
					{Ret: "int", Name: "n", Static: true, At: at(21, 3)},
				}},
		},
		Main: api.Method{Ret: "void", Name: "main", Static: true, At: at(25, 1), Locals: []api.Var{{Type: "int", Name: "i", At: at(26, 7)}},
			Body: []api.Stmt{{Do: api.DoIf, Y: "i", Z: "j", At: at(27, 3), Other: []api.Stmt{{Do: api.DoInt, X: "i", N: 1, At: at(27, 25)}}}}},
	}
}

func TestWhole(t *testing.T) {
	got, fault := parse.Parse(wholeText)
	if want := whole(); fault != (api.Fault{}) || !reflect.DeepEqual(nilled(got), want) {
		t.Errorf("P7.1: %v\n%v\nwant\n%v", fault, got, want)
	}
}

// TestEndsTooEarly has each piece of a text that ends at a token's end, or behind a remark.
func TestEndsTooEarly(t *testing.T) {
	tokens, _, _ := lex.Tokens(wholeText)
	wantParse(t, "P7.1: no tokens", "@", api.ErrSyntax)
	wantParse(t, "P7.1: no tokens", " \n# main { }\n  @", api.ErrSyntax)
	octet := 0
	for _, token := range tokens[:len(tokens)-1] {
		octet += strings.Index(wholeText[octet:], token.Text) + len(token.Text)
		wantParse(t, "P7.1: too early an end", wholeText[:octet]+"@", api.ErrSyntax)
		wantParse(t, "P7.1: too early an end", wholeText[:octet]+" # }\n\n @", api.ErrSyntax)
		octet = skipRemark(octet)
	}
}

// skipRemark is the octet behind a remark of wholeText that begins right behind one.
func skipRemark(octet int) int {
	if rest := wholeText[octet:]; strings.HasPrefix(strings.TrimLeft(rest, " "), "#") {
		return octet + strings.Index(rest, "\n")
	}
	return octet
}
