package member_test

import (
	"reflect"
	"slices"
	"testing"

	"winnower/api"
	"winnower/member"
	"winnower/parse"
)

// program is that of classes' text.
func program(t *testing.T, text string) api.Program {
	t.Helper()
	p, fault := parse.Parse(text + "\nmain { }")
	if fault.Err != api.OK {
		t.Fatalf("%q: %v", text, fault)
	}
	return p
}

// made are members that must be there.
func made(t *testing.T, classes ...api.Class) *member.Members {
	t.Helper()
	m, fault := member.New(api.Program{Classes: classes})
	if m == nil || fault != (api.Fault{}) {
		t.Fatalf("P10.1: New: %v, %v", m, fault)
	}
	return m
}

// read are the members of classes' text.
func read(t *testing.T, text string) *member.Members {
	t.Helper()
	return made(t, program(t, text).Classes...)
}

// same: are two members one? Lists without anything are.
func same(x, y api.Member) bool {
	if !slices.Equal(x.Params, y.Params) {
		return false
	}
	x.Params, y.Params = nil, nil
	return reflect.DeepEqual(x, y)
}

// lookup is one of the calls that answer a member.
type lookup func(class int, name string) (api.Member, bool)

func wantMember(t *testing.T, what string, find lookup, class int, name string, want api.Member) {
	t.Helper()
	if got, ok := find(class, name); !ok || !same(got, want) {
		t.Errorf("P10.2: %s(%d, %q): %+v, %v, want %+v", what, class, name, got, ok, want)
	}
}

func wantNone(t *testing.T, what string, find lookup, class int, names ...string) {
	t.Helper()
	for _, name := range names {
		if got, ok := find(class, name); ok || !reflect.DeepEqual(got, api.Member{}) {
			t.Errorf("P10.2: %s(%d, %q): %+v, %v, want none", what, class, name, got, ok)
		}
	}
}

// wantFields holds the fields of a class against what must be.
func wantFields(t *testing.T, m *member.Members, class int, want ...api.Member) {
	t.Helper()
	if got := m.Fields(class); !slices.EqualFunc(got, want, same) {
		t.Errorf("P10.2: Fields(%d): %+v, want %+v", class, got, want)
	}
}

func wantDispatch(t *testing.T, m *member.Members, class int, name string, want int) {
	t.Helper()
	if got, ok := m.Dispatch(class, name); !ok || got != want {
		t.Errorf("P10.2: Dispatch(%d, %q): %d, %v, want %d", class, name, got, ok, want)
	}
}

func wantNoDispatch(t *testing.T, m *member.Members, class int, names ...string) {
	t.Helper()
	for _, name := range names {
		if got, ok := m.Dispatch(class, name); ok || got != 0 {
			t.Errorf("P10.2: Dispatch(%d, %q): %d, %v, want none", class, name, got, ok)
		}
	}
}

func TestExample(t *testing.T) {
	m := read(t, "class B { method void m() { } } class A extends B { }")
	wantDispatch(t, m, 1, "m", 0)
	wantDispatch(t, m, 0, "m", 0)
}

func TestNoClasses(t *testing.T) {
	m := made(t)
	if x := m.Types(); x == nil || !x.Is("int", "null") || x.Is("A") {
		t.Errorf("P10.1: Types of no classes: %v", x)
	}
	for _, class := range []int{-1, 0, 1} {
		wantNone(t, "Field", m.Field, class, "", "f")
		wantNone(t, "Static", m.Static, class, "", "f")
		wantNone(t, "Method", m.Method, class, "", "init", "main")
		wantNoDispatch(t, m, class, "", "main")
		wantFields(t, m, class)
	}
}

func TestTypes(t *testing.T) {
	x := read(t, "class A extends B { } interface I { } class B implements I { }").Types()
	if x == nil || !x.Is("int", "null", "A", "I[]", "B") || x.Is("C") || !x.Below("A", "I") || x.Below("I", "A") {
		t.Errorf("P10.1: Types: %v", x)
	}
	if n, ok := x.Class("B"); !ok || n != 2 {
		t.Errorf("P10.1: Types: the number of B: %d, %v", n, ok)
	}
}

// farmText has the numbers Duck 0, Bird 1, Swims 2, Moves 3, Animal 4, Flies 5, Quick 6, Stone 7.
const farmText = `
class Duck extends Bird implements Swims { field Duck mate; static Duck[] all; method Stone egg(int n, Duck[] of) { } method void swim() { } }
class Bird extends Animal implements Flies { field int wings; field Stone[] nest; method int move(int far) { } static method Bird hatch(Stone s) { } method Animal self() { } init { } }
interface Swims extends Moves { method void swim(); }
interface Moves { method int move(int far); method Animal self(); }
class Animal { static int count; field Animal mother; static Animal first; method void eat(Animal what, Animal[] all, int n) { } method int quick() { } }
interface Flies extends Quick, Moves { method int move(int far); }
interface Quick { method int quick(); }
class Stone { field int mother; field int wings; static int wings; method void wings() { } method void init2() { } }
`

func TestFields(t *testing.T) {
	m := read(t, farmText)
	mother := api.Member{Class: 4, Name: "mother", Type: "Animal"}
	wings := api.Member{Class: 1, Name: "wings", Type: "int"}
	nest := api.Member{Class: 1, Name: "nest", Type: "Stone[]"}
	mate := api.Member{Class: 0, Name: "mate", Type: "Duck"}
	for _, class := range []int{0, 1, 4} {
		wantMember(t, "Field", m.Field, class, "mother", mother)
	}
	for _, class := range []int{0, 1} {
		wantMember(t, "Field", m.Field, class, "wings", wings)
		wantMember(t, "Field", m.Field, class, "nest", nest)
	}
	wantMember(t, "Field", m.Field, 0, "mate", mate)
	wantMember(t, "Field", m.Field, 7, "mother", api.Member{Class: 7, Name: "mother", Type: "int"})
	wantNone(t, "Field", m.Field, 0, "", "first", "count", "all", "egg", "mothe", "mothers", "Mother", "mother ")
	wantNone(t, "Field", m.Field, 1, "mate")
	wantNone(t, "Field", m.Field, 4, "wings", "nest", "mate")
	wantNone(t, "Field", m.Field, 7, "nest")
	for _, class := range []int{2, 3, 5, 6} {
		wantNone(t, "Field", m.Field, class, "mother", "wings", "move")
		wantFields(t, m, class)
	}
	wantFields(t, m, 0, mother, wings, nest, mate)
	wantFields(t, m, 1, mother, wings, nest)
	wantFields(t, m, 4, mother)
	wantFields(t, m, 7, api.Member{Class: 7, Name: "mother", Type: "int"}, api.Member{Class: 7, Name: "wings", Type: "int"})
}

func TestStatics(t *testing.T) {
	m := read(t, farmText)
	for _, class := range []int{0, 1, 4} {
		wantMember(t, "Static", m.Static, class, "count", api.Member{Class: 4, Name: "count", Type: "int", Static: true})
		wantMember(t, "Static", m.Static, class, "first", api.Member{Class: 4, Name: "first", Type: "Animal", Static: true})
		wantNone(t, "Static", m.Static, class, "", "mother", "eat", "hatch", "wings")
	}
	wantMember(t, "Static", m.Static, 0, "all", api.Member{Class: 0, Name: "all", Type: "Duck[]", Static: true})
	wantMember(t, "Static", m.Static, 7, "wings", api.Member{Class: 7, Name: "wings", Type: "int", Static: true})
	wantNone(t, "Static", m.Static, 1, "all")
	wantNone(t, "Static", m.Static, 7, "mother", "count")
	wantNone(t, "Static", m.Static, 2, "count", "first", "swim")
}

func TestMethods(t *testing.T) {
	m := read(t, farmText)
	eat := api.Member{Class: 4, Name: "eat", Type: "void", Params: []string{"Animal", "Animal[]", "int"}}
	hatch := api.Member{Class: 1, Name: "hatch", Type: "Bird", Params: []string{"Stone"}, Static: true}
	for _, class := range []int{0, 1, 4} {
		wantMember(t, "Method", m.Method, class, "eat", eat)
		wantMember(t, "Method", m.Method, class, "quick", api.Member{Class: 4, Name: "quick", Type: "int"})
		wantNone(t, "Method", m.Method, class, "", "mother", "count", "init", "main", "ea", "eats", "Eat")
	}
	for _, class := range []int{0, 1} {
		wantMember(t, "Method", m.Method, class, "move", api.Member{Class: 1, Name: "move", Type: "int", Params: []string{"int"}})
		wantMember(t, "Method", m.Method, class, "self", api.Member{Class: 1, Name: "self", Type: "Animal"})
		wantMember(t, "Method", m.Method, class, "hatch", hatch)
	}
	wantMember(t, "Method", m.Method, 0, "egg", api.Member{Class: 0, Name: "egg", Type: "Stone", Params: []string{"int", "Duck[]"}})
	wantMember(t, "Method", m.Method, 7, "wings", api.Member{Class: 7, Name: "wings", Type: "void"})
	wantNone(t, "Method", m.Method, 1, "egg", "swim")
	wantNone(t, "Method", m.Method, 4, "move", "self", "hatch")
	for _, class := range []int{-1, -2, 8, 1 << 40, -1 << 40} {
		wantNone(t, "Field", m.Field, class, "mother", "")
		wantNone(t, "Static", m.Static, class, "count", "")
		wantNone(t, "Method", m.Method, class, "move", "")
		wantNoDispatch(t, m, class, "move", "")
		wantFields(t, m, class)
	}
}

func TestMethodsOfInterfaces(t *testing.T) {
	m := read(t, farmText)
	move := func(class int) api.Member {
		return api.Member{Class: class, Name: "move", Type: "int", Params: []string{"int"}, Bare: true}
	}
	wantMember(t, "Method", m.Method, 3, "move", move(3))
	wantMember(t, "Method", m.Method, 2, "move", move(3))
	wantMember(t, "Method", m.Method, 5, "move", move(5))
	wantMember(t, "Method", m.Method, 2, "swim", api.Member{Class: 2, Name: "swim", Type: "void", Bare: true})
	wantMember(t, "Method", m.Method, 5, "quick", api.Member{Class: 6, Name: "quick", Type: "int", Bare: true})
	wantMember(t, "Method", m.Method, 5, "self", api.Member{Class: 3, Name: "self", Type: "Animal", Bare: true})
	wantNone(t, "Method", m.Method, 5, "swim", "eat")
	wantNone(t, "Method", m.Method, 3, "swim", "quick")
	wantNone(t, "Method", m.Method, 6, "move")
}

// TestFirstOfTheFaces: each Face goes, with all above it, ahead of the next one.
func TestFirstOfTheFaces(t *testing.T) {
	m := read(t, `
interface K extends I, J { }
interface I extends H { }
interface H extends G { }
interface G { method int m(); }
interface J { method void m(); method void n(); }
interface L extends J, I { }
interface M extends E, K, L { }
interface E { }
interface N extends E, J, G { method void k(); }
interface O extends P, J { }
interface P extends G, J { }`)
	for class, want := range map[int]int{0: 3, 1: 3, 2: 3, 3: 3, 4: 4, 5: 4, 6: 3, 8: 4, 9: 3, 10: 3} {
		ret := map[int]string{3: "int", 4: "void"}[want]
		wantMember(t, "Method", m.Method, class, "m", api.Member{Class: want, Name: "m", Type: ret, Bare: true})
	}
	wantNone(t, "Method", m.Method, 7, "m")
	for _, class := range []int{0, 4, 5, 6, 8, 9, 10} {
		wantMember(t, "Method", m.Method, class, "n", api.Member{Class: 4, Name: "n", Type: "void", Bare: true})
	}
	wantNone(t, "Method", m.Method, 1, "n")
	for class := range 11 {
		wantNoDispatch(t, m, class, "m", "n", "k")
	}
}

func TestDispatch(t *testing.T) {
	m := read(t, farmText)
	for _, c := range []struct {
		class, want int
		name        string
	}{{0, 4, "eat"}, {1, 4, "eat"}, {4, 4, "eat"}, {0, 1, "move"}, {1, 1, "move"}, {0, 1, "self"}, {0, 4, "quick"}, {0, 0, "egg"}, {0, 0, "swim"}, {7, 7, "wings"}} {
		wantDispatch(t, m, c.class, c.name, c.want)
	}
	wantNoDispatch(t, m, 0, "hatch", "", "mother", "count", "init", "main", "wings")
	wantNoDispatch(t, m, 1, "hatch", "egg", "swim")
	wantNoDispatch(t, m, 4, "move", "self", "hatch")
	for _, class := range []int{2, 3, 5, 6} {
		wantNoDispatch(t, m, class, "move", "self", "swim", "quick")
	}
}

// TestOwnGoesAhead: of what stands below each other the lowest one is a class's.
func TestOwnGoesAhead(t *testing.T) {
	m := read(t, `
class C extends B { method int m(B b) { } }
class B extends A { }
class A extends Z { method int m(B b) { } }
class Z { method int m(B b) { } method void n() { } }
class D extends C { }`)
	for class, want := range []int{0, 2, 2, 3, 0} {
		wantMember(t, "Method", m.Method, class, "m", api.Member{Class: want, Name: "m", Type: "int", Params: []string{"B"}})
		wantDispatch(t, m, class, "m", want)
		wantDispatch(t, m, class, "n", 3)
	}
}

// TestKindsAreApart: a field, a static and a method may have one name, in one class and above each other.
func TestKindsAreApart(t *testing.T) {
	m := read(t, `
class A extends B { field int x; static int y; method int z() { } }
class B extends C { static B[] x; method B y() { } field B z; }
class C { method void x() { } field A y; static A z; }`)
	wantMember(t, "Field", m.Field, 0, "x", api.Member{Class: 0, Name: "x", Type: "int"})
	wantMember(t, "Field", m.Field, 0, "y", api.Member{Class: 2, Name: "y", Type: "A"})
	wantMember(t, "Field", m.Field, 0, "z", api.Member{Class: 1, Name: "z", Type: "B"})
	wantMember(t, "Static", m.Static, 0, "x", api.Member{Class: 1, Name: "x", Type: "B[]", Static: true})
	wantMember(t, "Static", m.Static, 0, "y", api.Member{Class: 0, Name: "y", Type: "int", Static: true})
	wantMember(t, "Static", m.Static, 0, "z", api.Member{Class: 2, Name: "z", Type: "A", Static: true})
	wantMember(t, "Method", m.Method, 0, "x", api.Member{Class: 2, Name: "x", Type: "void"})
	wantMember(t, "Method", m.Method, 0, "y", api.Member{Class: 1, Name: "y", Type: "B"})
	wantMember(t, "Method", m.Method, 0, "z", api.Member{Class: 0, Name: "z", Type: "int"})
}
