package check_test

import (
	"slices"
	"strings"
	"testing"

	"winnower/api"
	"winnower/check"
)

// wantScope asks for the variables of a method.
func wantScope(t *testing.T, what string, p api.Program, class int, x api.Method, want ...api.Var) {
	t.Helper()
	if got := check.Scope(p, class, x); !slices.Equal(got, want) {
		t.Errorf("P11.2: %s: %v, want %v", what, got, want)
	}
}

func TestScope(t *testing.T) {
	p := program(t, `class A { method A m(int i, A a) { var A[] l; var int n; } static method void s(B b) { var B c; } method void e() { } }
class B { init { var int i; } method void m(int i) { } static method void s() { var int n; } static method void e() { } }
main { var int j; var A a; }`)
	a, b := p.Classes[0].Methods, p.Classes[1].Methods
	at := func(line, col int) api.Pos { return api.Pos{Line: line, Col: col} }
	rest := []api.Var{{Type: "int", Name: "i", At: at(1, 22)}, {Type: "A", Name: "a", At: at(1, 29)}, {Type: "A[]", Name: "l", At: at(1, 40)}, {Type: "int", Name: "n", At: at(1, 51)}}
	wantScope(t, "a method", p, 0, a[0], append([]api.Var{{Type: "A", Name: "this", At: at(1, 11)}}, rest...)...)
	wantScope(t, "a static method", p, 0, a[1], api.Var{Type: "B", Name: "b", At: at(1, 81)}, api.Var{Type: "B", Name: "c", At: at(1, 92)})
	wantScope(t, "a method without variables", p, 0, a[2], api.Var{Type: "A", Name: "this", At: a[2].At})
	wantScope(t, "an init", p, 1, *p.Classes[1].Init, api.Var{Type: "int", Name: "i", At: at(2, 22)})
	wantScope(t, "a second class's method", p, 1, b[0], api.Var{Type: "B", Name: "this", At: at(2, 31)}, api.Var{Type: "int", Name: "i", At: at(2, 45)})
	wantScope(t, "a static method with a local", p, 1, b[1], api.Var{Type: "int", Name: "n", At: at(2, 85)})
	wantScope(t, "a static method without variables", p, 1, b[2])
	wantScope(t, "main", p, -1, p.Main, api.Var{Type: "int", Name: "j", At: at(3, 12)}, api.Var{Type: "A", Name: "a", At: at(3, 23)})
	wantScope(t, "another class's", p, 1, a[0], append([]api.Var{{Type: "B", Name: "this", At: at(1, 11)}}, rest...)...)
	for _, none := range []int{-1, -2, -1 << 63, 2, 3, 1<<63 - 1} {
		wantScope(t, "no class's", p, none, a[0], rest...)
		wantScope(t, "no class's, without variables", p, none, a[2])
	}
}

// TestScopeOfInterfaces: a Bare method's variables are as another's.
func TestScopeOfInterfaces(t *testing.T) {
	p := program(t, "interface I { method I m(I i, I[] j); } main { }")
	x := p.Classes[0].Methods[0]
	wantScope(t, "a Bare method", p, 0, x, api.Var{Type: "I", Name: "this", At: x.At}, x.Params[0], x.Params[1])
}

// TestScopeOfAny: Scope doesn't ask whether anything fits.
func TestScopeOfAny(t *testing.T) {
	at := api.Pos{Line: -3, Col: 1 << 40}
	x := api.Method{Params: []api.Var{{Type: "?", Name: "this"}, {}}, Locals: []api.Var{{Type: "", Name: "this", At: at}, {Type: "Q[]", Name: "\xff"}}, At: at}
	p := api.Program{Classes: []api.Class{{Name: "A"}, {Name: "", Super: "?"}, {Name: "A"}}}
	all := slices.Concat(x.Params, x.Locals)
	for i, name := range []string{"A", "", "A"} {
		wantScope(t, "any", p, i, x, append([]api.Var{{Type: name, Name: "this", At: at}}, all...)...)
	}
	wantScope(t, "any of none", p, -1, x, all...)
	wantScope(t, "of a program without classes", api.Program{}, 0, x, all...)
	wantScope(t, "nothing", api.Program{}, 0, api.Method{})
	x.Static = true
	wantScope(t, "any static one", p, 0, x, all...)
}

// TestScopeIsWhatStatementsName: a variable may be named just if it is of the method's scope.
func TestScopeIsWhatStatementsName(t *testing.T) {
	const text = "class A { init { var A a; var int b; } method void m(A c, int d) { var A e; } static method void n(A f) { var A[] g; } } main { var A h; var int i; }"
	names := strings.Split("a b c d e f g h i this m n A x", " ")
	methods := func(p *api.Program) []*api.Method {
		c := &p.Classes[0]
		return []*api.Method{c.Init, &c.Methods[0], &c.Methods[1], &p.Main}
	}
	for i := range 4 {
		for _, name := range names {
			p := program(t, text)
			x := methods(&p)[i]
			class := 0
			if i == 3 {
				class = -1
			}
			known := slices.ContainsFunc(check.Scope(p, class, *x), func(v api.Var) bool { return v.Name == name })
			x.Body = []api.Stmt{{Do: api.DoCopy, X: name, Y: name, At: api.Pos{Line: 7, Col: 8}}}
			if known {
				wantFits(t, name, p)
			} else {
				wantFault(t, name, p, x.Body[0].At)
			}
		}
	}
}
