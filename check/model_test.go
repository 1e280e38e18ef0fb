package check_test

import (
	"slices"
	"testing"

	"winnower/api"
	"winnower/check"
	"winnower/member"
	"winnower/sub"
)

// model tells what must be of a program's statements as plainly as can be, by the words of the chapter, over layers 9 and 10.
type model struct {
	p       api.Program
	types   *sub.Types
	members *member.Members
}

// scene is a model's method.
type scene struct {
	model
	vars []api.Var
	ret  string
}

// variables are those of a method of a class; below 0: of none.
func (m model) variables(class int, x api.Method) []api.Var {
	var vars []api.Var
	if class >= 0 && !x.Static {
		vars = []api.Var{{Type: m.p.Classes[class].Name, Name: "this", At: x.At}}
	}
	return append(append(vars, x.Params...), x.Locals...)
}

// is: is a class, and no interface, of a name?
func (m model) is(name string) bool {
	return slices.ContainsFunc(m.p.Classes, func(c api.Class) bool { return c.Name == name && !c.Face })
}

// has: is a class, or an interface, of a name?
func (m model) has(name string) bool {
	return slices.ContainsFunc(m.p.Classes, func(c api.Class) bool { return c.Name == name })
}

// number is that of a class's name.
func (m model) number(name string) int {
	return slices.IndexFunc(m.p.Classes, func(c api.Class) bool { return c.Name == name })
}

// kind is a variable's type; "-": there is none.
func (s scene) kind(name string) string {
	for _, v := range s.vars {
		if v.Name == name {
			return v.Type
		}
	}
	return "-"
}

// element is what an array of a type has; "-": it is none.
func (s scene) element(kind string) string {
	for _, c := range s.p.Classes {
		if kind == c.Name+"[]" {
			return c.Name
		}
	}
	return "-"
}

// member is a field's, or a static's, type; "-": there is none.
func (s scene) member(kind, name string, static bool) string {
	if !s.is(kind) {
		return "-"
	}
	x, found := s.members.Field(s.number(kind), name)
	if static {
		x, found = s.members.Static(s.number(kind), name)
	}
	if !found {
		return "-"
	}
	return x.Type
}

// called: is it a right call of a method that a type has?
func (s scene) called(x api.Stmt, kind string) bool {
	m, found := s.members.Method(s.number(kind), x.F)
	switch {
	case !found || len(m.Params) != len(x.Args):
		return false
	case x.Do == api.DoCall && m.Static, x.Do == api.DoSpecial && (m.Static || m.Bare), x.Do == api.DoStatic && !m.Static:
		return false
	}
	for i := range x.Args {
		if !s.types.Below(s.kind(x.Args[i]), m.Params[i]) {
			return false
		}
	}
	if x.X == "" {
		return true
	}
	return m.Type != "void" && s.types.Below(m.Type, s.kind(x.X))
}

// fits is the chapter's table.
func (s scene) fits(x api.Stmt) bool {
	X, Y, Z := s.kind(x.X), s.kind(x.Y), s.kind(x.Z)
	below := s.types.Below
	switch x.Do {
	case api.DoNew, api.DoTry:
		return s.is(x.T) && below(x.T, X)
	case api.DoArray:
		return s.has(x.T) && below(x.T+"[]", X)
	case api.DoNull:
		return below("null", X)
	case api.DoCopy:
		return below(Y, X)
	case api.DoCast:
		return s.types.Is(x.T) && x.T != "int" && x.T != "null" && below(x.T, X) && Y != "-" && Y != "int"
	case api.DoLoad:
		return below(s.member(Y, x.F, false), X)
	case api.DoStore:
		return below(Y, s.member(X, x.F, false))
	case api.DoGet:
		return below(s.member(x.T, x.F, true), X)
	case api.DoPut:
		return below(Y, s.member(x.T, x.F, true))
	case api.DoElem:
		return Z == "int" && below(s.element(Y), X)
	case api.DoSet:
		return Z == "int" && below(Y, s.element(X))
	case api.DoCall:
		return s.has(Y) && s.called(x, Y)
	case api.DoSpecial:
		return s.is(x.T) && below(Y, x.T) && s.called(x, x.T)
	case api.DoStatic:
		return s.is(x.T) && s.called(x, x.T)
	case api.DoInt, api.DoInput:
		return X == "int"
	case api.DoAdd, api.DoSub:
		return X == "int" && Y == "int" && Z == "int"
	case api.DoThrow:
		return s.is(X)
	case api.DoIf, api.DoWhile:
		return Y == "int" && Z == "int"
	case api.DoReturn:
		return x.X == "" && s.ret == "void" || x.X != "" && below(X, s.ret)
	}
	return false
}

// misfits are the places of all statements that don't fit, in order.
func (s scene) misfits(list []api.Stmt) []api.Pos {
	var places []api.Pos
	for _, x := range list {
		if !s.fits(x) {
			places = append(places, x.At)
		}
		if x.Do == api.DoTry || x.Do == api.DoIf || x.Do == api.DoWhile {
			places = append(places, s.misfits(x.Body)...)
		}
		if x.Do == api.DoTry || x.Do == api.DoIf {
			places = append(places, s.misfits(x.Other)...)
		}
	}
	return places
}

// method are the places in a method that don't fit, in order.
func (m model) method(class int, x api.Method) []api.Pos {
	var places []api.Pos
	told := slices.Concat(x.Params, x.Locals)
	for i, v := range told {
		again := slices.ContainsFunc(told[:i], func(o api.Var) bool { return o.Name == v.Name })
		if again || v.Name == "this" || v.Type != "int" && !m.has(v.Type) && (scene{model: m}).element(v.Type) == "-" {
			places = append(places, v.At)
		}
	}
	s := scene{model: m, vars: m.variables(class, x), ret: x.Ret}
	return append(places, s.misfits(x.Body)...)
}

// program are the places in a program that don't fit, in order.
func (m model) program() []api.Pos {
	var places []api.Pos
	for i, c := range m.p.Classes {
		if c.Init != nil {
			places = append(places, m.method(i, *c.Init)...)
		}
		for _, x := range c.Methods {
			if !x.Bare {
				places = append(places, m.method(i, x)...)
			}
		}
	}
	return append(places, m.method(-1, m.p.Main)...)
}

// modelOf is the model of a program whose members are right.
func modelOf(t *testing.T, p api.Program) model {
	t.Helper()
	members, fault := member.New(p)
	if members == nil {
		t.Fatalf("P10.1: %v", fault)
	}
	return model{p: p, types: members.Types(), members: members}
}

// dice answers the same numbers at each run.
type dice uint64

func (d *dice) roll(n int) int {
	*d = *d*6364136223846793005 + 1442695040888963407
	return int(uint64(*d)>>33) % n
}

// pick is one of some texts.
func (d *dice) pick(texts ...string) string {
	return texts[d.roll(len(texts))]
}

// places gives each one a place that no other one has.
type places int

func (c *places) next() api.Pos {
	*c++
	return api.Pos{Line: 1000 + int(*c)/7, Col: int(*c)}
}

// modelText are classes with methods of all kinds.
const modelText = `
interface I { method void q(); method A r(I w, int i); }
class B extends A implements I { field B g; static I h; method B k() { } method A m(A x, int y) { } method void q() { } method A r(I x, int y) { } init { } }
class A { field A f; field int n; field A[] l; static A s; static int c; method A m(A a, int i) { } method void v() { } static method A t(B b) { } static method void u() { } }
interface J extends I { method int j(J[] js); }
class D extends B implements J { field I[] p; static D[] o; init { } method int j(J[] k) { } method void w(D d, D[] ds) { } static method int x(int i) { } }
main { }`

var (
	modelTypes   = []string{"int", "A", "B", "D", "I", "J", "A[]", "B[]", "D[]", "I[]", "J[]"}
	modelClasses = []string{"A", "B", "D", "I", "J", "A", "B", "D", "A[]", "I[]", "int", "null", "void", "Q"}
	modelMembers = []string{"f", "n", "l", "s", "c", "g", "h", "p", "o", "m", "v", "t", "u", "k", "q", "r", "j", "w", "x", "?"}
)

// maker makes statements over variables.
type maker struct {
	*dice
	places
	names []string
}

func (m *maker) name() string {
	if m.roll(12) == 0 {
		return m.pick("this", "zz", "", "A")
	}
	return m.pick(m.names...)
}

// stmt is any statement, of which all may be wrong.
func (m *maker) stmt() api.Stmt {
	s := api.Stmt{Do: m.roll(24), X: m.name(), Y: m.name(), Z: m.name(), T: m.pick(modelClasses...), F: m.pick(modelMembers...), At: m.next()}
	if s.Do >= 23 {
		s.Do = m.roll(40) - 8
	}
	if m.roll(3) == 0 {
		s.X = ""
	}
	for range m.roll(4) {
		s.Args = append(s.Args, m.name())
	}
	return s
}

// block are statements that fit a scene, but now and then not.
func (m *maker) block(s scene, deep, wrong int) []api.Stmt {
	if deep == 0 {
		return nil
	}
	var list []api.Stmt
	for range m.roll(4) {
		x := m.stmt()
		for !s.fits(x) && m.roll(1000) >= wrong {
			x = m.stmt()
		}
		x.Body = m.block(s, deep-1, wrong)
		x.Other = m.block(s, deep-1, wrong)
		list = append(list, x)
	}
	return list
}

// locals are variables with names of their own, but now and then not.
func (m *maker) locals(wrong int) []api.Var {
	var list []api.Var
	m.names = []string{"this"}
	for i := range 4 + m.roll(10) {
		v := api.Var{Type: m.pick(modelTypes...), Name: "v" + string(rune('a'+i)), At: m.next()}
		if m.roll(1000) < wrong {
			v.Name = m.pick("va", "this", "vb", "a", "i", "x", "")
		}
		if m.roll(1000) < wrong {
			v.Type = m.pick("null", "void", "Q", "Q[]", "A[][]", "int[]", "")
		}
		list = append(list, v)
		m.names = append(m.names, v.Name)
	}
	return list
}

// fill makes a method's variables and statements.
func (m *maker) fill(o model, class int, x *api.Method, wrong int) {
	x.At = m.next()
	x.Locals = m.locals(wrong)
	for i := range x.Params {
		x.Params[i].At = m.next()
		m.names = append(m.names, x.Params[i].Name)
	}
	x.Body = m.block(scene{model: o, vars: o.variables(class, *x), ret: x.Ret}, 3, wrong)
}

// program is the model's with statements, of which some in a thousand are wrong.
func (m *maker) program(t *testing.T, wrong int) (api.Program, model) {
	p := program(t, modelText)
	o := modelOf(t, p)
	for i := range p.Classes {
		c := &p.Classes[i]
		if c.Init != nil {
			m.fill(o, i, c.Init, wrong)
		}
		for j := range c.Methods {
			m.fill(o, i, &c.Methods[j], wrong)
		}
	}
	m.fill(o, -1, &p.Main, wrong)
	o.p = p
	return p, o
}

// shuffled are a program's classes in another order.
func (d *dice) shuffled(p api.Program) api.Program {
	p.Classes = slices.Clone(p.Classes)
	for i := range p.Classes {
		j := d.roll(i + 1)
		p.Classes[i], p.Classes[j] = p.Classes[j], p.Classes[i]
	}
	return p
}

func TestAgainstModel(t *testing.T) {
	d := dice(1)
	for _, wrong := range []int{0, 1, 3, 10, 100} {
		fit := 0
		const all = 150
		for range all {
			m := maker{dice: &d}
			p, o := m.program(t, wrong)
			misfits := o.program()
			if len(misfits) > 0 {
				wantFault(t, "a made program", p, misfits[0])
				if got, fault := check.Check(d.shuffled(p)); got != nil || fault.Err != api.ErrValid {
					t.Errorf("P11.3: in another order: %v, %v", got, fault)
				}
				continue
			}
			fit++
			wantFits(t, "a made program", p)
			if got, fault := check.Check(d.shuffled(p)); got == nil || fault != (api.Fault{}) {
				t.Errorf("P11.3: in another order: %v, %v", got, fault)
			}
		}
		if wrong == 0 && fit != all || wrong == 100 && fit > all/20 || wrong == 3 && (fit == 0 || fit == all) {
			t.Errorf("of %d programs with %d wrong fit: %d", all, wrong, fit)
		}
	}
}

// TestScopeAgainstModel: of each method of made programs, in each class.
func TestScopeAgainstModel(t *testing.T) {
	d := dice(2)
	for range 30 {
		m := maker{dice: &d}
		p, o := m.program(t, 50)
		for _, c := range p.Classes {
			for _, x := range c.Methods {
				for class := -1; class < len(p.Classes); class++ {
					wantScope(t, "a made method", p, class, x, o.variables(class, x)...)
				}
			}
		}
		wantScope(t, "main", p, -1, p.Main, p.Main.Locals...)
	}
}

// TestEachStatement: statements of all Dos one by one, over variables of all types.
func TestEachStatement(t *testing.T) {
	d := dice(3)
	p := program(t, modelText)
	x := &p.Classes[2].Methods[0]
	m := maker{dice: &d}
	for i, kind := range slices.Concat(modelTypes, []string{"int", "int", "A", "B"}) {
		name := "v" + string(rune('a'+i))
		x.Locals = append(x.Locals, api.Var{Type: kind, Name: name})
		m.names = append(m.names, name)
	}
	o := modelOf(t, p)
	s := scene{model: o, vars: o.variables(2, *x), ret: x.Ret}
	var fit, unfit [23]int
	for range 30000 {
		one := m.stmt()
		for do := one.Do; m.roll(30) > 0 && !s.fits(one); one.Do = do {
			one = m.stmt()
		}
		fits := s.fits(one)
		if one.Do >= 0 && one.Do < 23 {
			if fits {
				fit[one.Do]++
			} else {
				unfit[one.Do]++
			}
		}
		x.Body = []api.Stmt{one}
		if got, fault := check.Check(p); fits != (got != nil) || fits != (fault == api.Fault{}) {
			t.Fatalf("P11.1: %+v: %v, %v, want %v", one, got, fault, fits)
		}
	}
	if least := min(slices.Min(fit[:]), slices.Min(unfit[:])); least < 20 {
		t.Errorf("too few of a Do: %v fit, %v don't", fit, unfit)
	}
}
