package member_test

import (
	"testing"

	"winnower/api"
	"winnower/member"
)

// place is where a test's class with a number stands; its members stand on lines of their own.
func place(class int) api.Pos {
	return api.Pos{Line: 1000 + class, Col: 7}
}

// placed is a program of classes that are made by hand, each of them, and each of their members, at its place.
func placed(classes ...api.Class) api.Program {
	for i := range classes {
		c := &classes[i]
		c.At = place(i)
		for j := range c.Fields {
			c.Fields[j].At = api.Pos{Line: 100 + i, Col: 1 + j}
		}
		for j := range c.Statics {
			c.Statics[j].At = api.Pos{Line: 200 + i, Col: 1 + j}
		}
		for j := range c.Methods {
			c.Methods[j].At = api.Pos{Line: 300 + i, Col: 1 + j}
		}
	}
	return api.Program{Classes: classes}
}

func variable(kind, name string) api.Var {
	return api.Var{Type: kind, Name: name}
}

// method is one by its head.
func method(ret, name string, params ...string) api.Method {
	m := api.Method{Ret: ret, Name: name}
	for _, kind := range params {
		m.Params = append(m.Params, variable(kind, ""))
	}
	return m
}

func bare(m api.Method) api.Method {
	m.Bare = true
	return m
}

func static(m api.Method) api.Method {
	m.Static = true
	return m
}

// with is a class with methods more.
func with(c api.Class, methods ...api.Method) api.Class {
	c.Methods = append(c.Methods, methods...)
	return c
}

func class(name, super string, faces ...string) api.Class {
	return api.Class{Name: name, Super: super, Faces: faces}
}

func face(name string, faces ...string) api.Class {
	return api.Class{Name: name, Face: true, Faces: faces}
}

func wantRight(t *testing.T, what string, p api.Program) *member.Members {
	t.Helper()
	m, fault := member.New(p)
	if m == nil || fault != (api.Fault{}) {
		t.Fatalf("P10.1: %s: %v, %v", what, m, fault)
	}
	return m
}

// TestNoVariablesTypes: null is a type, but none that a field, a static, a parameter or an answer may have; void is but an answer's.
func TestNoVariablesTypes(t *testing.T) {
	for _, kind := range []string{"null", "void", "", "A[][]", "int[]", "null[]", "a", "A ", "[]"} {
		a := class("A", "")
		a.Fields = []api.Var{variable("A", "a"), variable(kind, "f")}
		wantFault(t, "a field's "+kind, placed(a), api.Pos{Line: 100, Col: 2})
		a.Fields, a.Statics = nil, []api.Var{variable("int", "a"), variable(kind, "f")}
		wantFault(t, "a static's "+kind, placed(a), api.Pos{Line: 200, Col: 2})
		a.Statics, a.Methods = nil, []api.Method{method("void", "a"), method("int", "m", "A", kind, "A")}
		wantFault(t, "a parameter's "+kind, placed(a), api.Pos{Line: 300, Col: 2})
		if kind != "void" {
			a.Methods = []api.Method{method("void", "a"), method(kind, "m")}
			wantFault(t, "an answer's "+kind, placed(a), api.Pos{Line: 300, Col: 2})
		}
	}
}

// TestClassesOfOddNames: what is a type is layer 9's to tell, but null is none here, and void an answer's in any case.
func TestClassesOfOddNames(t *testing.T) {
	named := class("void", "")
	named.Fields = []api.Var{variable("void", "f"), variable("void[]", "")}
	m := wantRight(t, "a class void", placed(with(named, method("void", "m", "void"))))
	wantMember(t, "Field", m.Field, 0, "f", api.Member{Name: "f", Type: "void"})
	wantMember(t, "Field", m.Field, 0, "", api.Member{Type: "void[]"})
	wantMember(t, "Method", m.Method, 0, "m", api.Member{Name: "m", Type: "void", Params: []string{"void"}})

	nothing := class("null", "")
	wantFault(t, "a class null", placed(with(nothing, method("null", "m"))), api.Pos{Line: 300, Col: 1})
	m = wantRight(t, "an array of a class null", placed(with(nothing, method("null[]", "m", "null[]"))))
	wantMember(t, "Method", m.Method, 0, "m", api.Member{Name: "m", Type: "null[]", Params: []string{"null[]"}})
}

// TestMembersOfAnyNames: a name may be any text; parameters' names are not asked for here.
func TestMembersOfAnyNames(t *testing.T) {
	a := class("A", "")
	for _, name := range []string{"", "a b", "\xff", "int", "this"} {
		a.Fields = append(a.Fields, variable("int", name))
		a.Statics = append(a.Statics, variable("A", name))
		a.Methods = append(a.Methods, method("A[]", name, "int", "int"))
	}
	m := wantRight(t, "any names", placed(a, class("B", "A")))
	for _, name := range []string{"", "a b", "\xff", "int", "this"} {
		wantMember(t, "Field", m.Field, 1, name, api.Member{Name: name, Type: "int"})
		wantMember(t, "Static", m.Static, 1, name, api.Member{Name: name, Type: "A", Static: true})
		wantMember(t, "Method", m.Method, 1, name, api.Member{Name: name, Type: "A[]", Params: []string{"int", "int"}})
	}
	a.Fields = append(a.Fields, variable("int", ""))
	wantFault(t, "two fields without a name", placed(a), api.Pos{Line: 100, Col: 6})
}

// TestBodiesOfInterfaces: no text has one, but a program that is made by hand may.
func TestBodiesOfInterfaces(t *testing.T) {
	wantFault(t, "a body", placed(with(face("I"), bare(method("int", "m")), method("int", "n"))), api.Pos{Line: 300, Col: 2})
	wantFault(t, "a static body", placed(with(face("I"), static(method("int", "m")))), api.Pos{Line: 300, Col: 1})
	p := placed(class("A", "", "I"), with(face("I"), method("int", "m")))
	wantFault(t, "a class needn't have what isn't Bare", p, api.Pos{Line: 301, Col: 1})
	p = placed(with(class("A", "", "I"), method("void", "m")), with(face("I"), method("int", "m")))
	wantFault(t, "but what it has must fit", p, api.Pos{Line: 300, Col: 1})
}

// TestBareMethodsOfClasses: a class's own Bare method is one above it, for which it must have a body: it has none.
func TestBareMethodsOfClasses(t *testing.T) {
	b := with(class("B", ""), bare(method("int", "m")))
	body := method("int", "m")
	wantFault(t, "a Bare method", placed(class("A", ""), b), place(1))
	wantFault(t, "below it none", placed(class("A", "B"), b), place(0))
	wantFault(t, "below it a body", placed(with(class("A", "B"), body), b), place(1))
	wantFault(t, "below it another kind", placed(with(class("A", "B"), method("int", "m", "A")), b), api.Pos{Line: 300, Col: 1})
	wantFault(t, "below a body", placed(with(class("A", "B"), bare(body)), with(class("B", ""), body)), place(0))
	wantFault(t, "a static Bare one", placed(with(class("A", ""), static(bare(body)))), place(0))
	twice := with(class("A", ""), bare(body), body)
	wantFault(t, "two of one name", placed(twice), api.Pos{Line: 300, Col: 2})
}

// TestStaticMethodsOfInterfaces: what is below one may tell none of the name, but may have one of a Super that isn't below.
func TestStaticMethodsOfInterfaces(t *testing.T) {
	i := with(face("I"), static(bare(method("int", "m"))))
	body := method("int", "m")
	wantFault(t, "one's own", placed(i, with(class("A", "", "I"), body)), api.Pos{Line: 301, Col: 1})
	wantFault(t, "a Bare one", placed(i, with(face("J", "I"), bare(body))), api.Pos{Line: 301, Col: 1})
	wantFault(t, "none", placed(i, class("A", "", "I")), place(1))
	p := placed(i, class("A", "B", "I"), with(class("B", ""), body))
	m := wantRight(t, "a Super's", p)
	wantMember(t, "Method", m.Method, 0, "m", api.Member{Name: "m", Type: "int", Static: true, Bare: true})
	wantDispatch(t, m, 1, "m", 2)
	wantNoDispatch(t, m, 0, "m")
	wantFault(t, "a Super's static one", placed(i, class("A", "B", "I"), with(class("B", ""), static(body))), place(1))
	wantFault(t, "a Super's of another kind", placed(i, class("A", "B", "I"), with(class("B", ""), method("int", "m", "A"))), place(1))
}

// TestInterfaceWithASuper: layer 8 lets it be; it isn't right here, behind all that it tells itself.
func TestInterfaceWithASuper(t *testing.T) {
	low := face("I")
	low.Super = "C"
	wantFault(t, "a Super", placed(class("A", ""), low, class("C", "")), place(1))
	wantFault(t, "a Bare method besides", placed(with(low, bare(method("int", "m"))), class("C", "")), place(0))
	wantFault(t, "a method of the Super's kind", placed(with(low, bare(method("int", "m"))), with(class("C", ""), method("int", "m"))), place(0))
	wantFault(t, "of another kind", placed(with(low, bare(method("void", "m"))), with(class("C", ""), method("int", "m"))), api.Pos{Line: 300, Col: 1})
	fields := low
	fields.Fields = []api.Var{variable("int", "e"), variable("int", "f")}
	above := class("C", "")
	above.Fields = []api.Var{variable("int", "f")}
	wantFault(t, "the Super's field", placed(fields, above), api.Pos{Line: 100, Col: 2})
	wantFault(t, "a class below first", placed(class("B", "", "I"), low, with(class("C", ""), bare(method("int", "m")))), place(0))
}

// TestFieldsOfInterfaces: no text has them; such are the interface's own, and nobody's below it.
func TestFieldsOfInterfaces(t *testing.T) {
	i := face("I")
	i.Fields = []api.Var{variable("int", "f")}
	i.Statics = []api.Var{variable("I", "s")}
	a := class("A", "", "J")
	a.Fields = []api.Var{variable("A", "f")}
	j := face("J", "I")
	j.Fields = []api.Var{variable("J", "g")}
	m := wantRight(t, "fields of interfaces", placed(i, a, j))
	wantMember(t, "Field", m.Field, 0, "f", api.Member{Name: "f", Type: "int"})
	wantMember(t, "Static", m.Static, 0, "s", api.Member{Name: "s", Type: "I", Static: true})
	wantMember(t, "Field", m.Field, 1, "f", api.Member{Class: 1, Name: "f", Type: "A"})
	wantNone(t, "Field", m.Field, 1, "g")
	wantNone(t, "Field", m.Field, 2, "f")
	wantNone(t, "Static", m.Static, 1, "s")
	wantNone(t, "Static", m.Static, 2, "s")
	wantFields(t, m, 0, api.Member{Name: "f", Type: "int"})
	wantFields(t, m, 1, api.Member{Class: 1, Name: "f", Type: "A"})
	wantFields(t, m, 2, api.Member{Class: 2, Name: "g", Type: "J"})
	i.Fields = append(i.Fields, variable("int", "f"))
	wantFault(t, "two of one name", placed(i), api.Pos{Line: 100, Col: 2})
}

// TestOthersDoNotPanic: of members that New didn't answer nothing is promised but this.
func TestOthersDoNotPanic(t *testing.T) {
	for _, m := range []*member.Members{nil, {}} {
		for _, class := range []int{-1, 0, 1} {
			for _, name := range []string{"", "m"} {
				m.Field(class, name)
				m.Static(class, name)
				m.Method(class, name)
				m.Dispatch(class, name)
			}
			m.Fields(class)
		}
		m.Types().Is("int")
	}
}
