package check_test

import (
	"strconv"
	"testing"

	"winnower/api"
)

// TestDeepNests: blocks may stand in each other as deep as the document's last limit.
func TestDeepNests(t *testing.T) {
	const deep = 1 << 16
	for _, do := range []int{api.DoWhile, api.DoIf, api.DoTry} {
		for _, other := range []bool{false, true} {
			last := api.Stmt{Do: api.DoNull, X: "a", At: place(9)}
			s := last
			for range deep {
				nest := api.Stmt{Do: do, X: "a", Y: "i", Z: "i", T: "A"}
				if other && do != api.DoWhile {
					nest.Other = []api.Stmt{s}
				} else {
					nest.Body = []api.Stmt{s}
				}
				s = nest
			}
			p := mainOf(t, "class A { }", []string{"A", "a", "int", "i"}, s)
			wantFits(t, "a deep nest", p)
			p.Main.Locals = p.Main.Locals[:1]
			if do != api.DoTry {
				wantFault(t, "a deep nest's head", p, place(0))
			} else {
				wantFits(t, "a deep nest of tries", p)
			}
			p = mainOf(t, "class A { }", []string{"A", "a", "int", "i"}, s)
			lowest(p.Main.Body).X = "i"
			wantFault(t, "a deep nest's last", p, place(9))
		}
	}
}

// lowest is the statement that has no blocks.
func lowest(list []api.Stmt) *api.Stmt {
	for {
		s := &list[len(list)-1]
		switch {
		case len(s.Body) > 0:
			list = s.Body
		case len(s.Other) > 0:
			list = s.Other
		default:
			return s
		}
	}
}

// TestLongLists: a program that is made by hand may tell more than a text may.
func TestLongLists(t *testing.T) {
	const n = 1 << 16
	p := program(t, "class A { static method A m() { } } main { }")
	x := &p.Classes[0].Methods[0]
	call := api.Stmt{Do: api.DoStatic, X: "v0", T: "A", F: "m", At: place(1)}
	for i := range n {
		name := strconv.Itoa(i)
		x.Params = append(x.Params, api.Var{Type: "A", Name: "p" + name})
		x.Locals = append(x.Locals, api.Var{Type: "int", Name: "l" + name})
		x.Body = append(x.Body, api.Stmt{Do: api.DoInput, X: "l" + name})
		p.Main.Locals = append(p.Main.Locals, api.Var{Type: "A", Name: "v" + name})
		call.Args = append(call.Args, "v"+name)
	}
	for range 8 {
		p.Main.Body = append(p.Main.Body, call)
	}
	wantFits(t, "long lists", p)
	x.Locals = append(x.Locals, api.Var{Type: "A", Name: "p7", At: place(2)})
	wantFault(t, "the last one again", p, place(2))
	x.Locals = x.Locals[:n]
	x.Body = append(x.Body, api.Stmt{Do: api.DoInput, X: "p" + strconv.Itoa(n-1), At: place(3)})
	wantFault(t, "the last statement", p, place(3))
	x.Body = x.Body[:n]
	call.Args = append(call.Args, "v0")
	p.Main.Body = append(p.Main.Body, call)
	wantFault(t, "one arg more", p, place(1))
}

// TestManyClasses: each has a method; the last one's doesn't fit.
func TestManyClasses(t *testing.T) {
	const n = 1 << 14
	p := api.Program{Classes: make([]api.Class, n)}
	for i := range p.Classes {
		name, next := strconv.Itoa(i), strconv.Itoa((i+1)%n)
		create := api.Stmt{Do: api.DoNew, X: "a", T: next}
		call := api.Stmt{Do: api.DoCall, Y: "a", F: "m", Args: []string{"this"}}
		m := api.Method{Ret: "void", Name: "m", Params: []api.Var{{Type: strconv.Itoa((i + n - 1) % n), Name: "x"}}, Locals: []api.Var{{Type: next, Name: "a"}}, Body: []api.Stmt{create, call}}
		p.Classes[i] = api.Class{Name: name, Methods: []api.Method{m}}
	}
	wantFits(t, "many classes", p)
	last := &p.Classes[n-1].Methods[0].Body[1]
	last.Args[0], last.At = "x", place(4)
	wantFault(t, "many classes", p, place(4))
}

// TestLongWaysUp: what a class far below has of one far above fits there.
func TestLongWaysUp(t *testing.T) {
	const n = 1 << 11
	p := api.Program{Classes: make([]api.Class, n)}
	for i := range p.Classes {
		c := &p.Classes[i]
		c.Name = strconv.Itoa(i)
		if i+1 < n {
			c.Super = strconv.Itoa(i + 1)
		}
		top := strconv.Itoa(n - 1)
		c.Methods = []api.Method{{Ret: top, Name: "m" + c.Name, Body: []api.Stmt{{Do: api.DoCall, Y: "this", F: "m" + top}, {Do: api.DoReturn, X: "this"}}}}
	}
	wantFits(t, "a long way up", p)
	p.Classes[n-1].Methods[0].Body[0] = api.Stmt{Do: api.DoCall, Y: "this", F: "m0", At: place(5)}
	wantFault(t, "none way down", p, place(5))
}
