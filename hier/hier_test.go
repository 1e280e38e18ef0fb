package hier_test

import (
	"math"
	"reflect"
	"slices"
	"testing"
	"unsafe"

	"winnower/api"
	"winnower/hier"
	"winnower/parse"
)

// class is one by its head; placed gives it a place.
func class(name, super string, faces ...string) api.Class {
	return api.Class{Name: name, Super: super, Faces: faces}
}

// face is an interface by its head.
func face(name string, faces ...string) api.Class {
	return api.Class{Name: name, Face: true, Faces: faces}
}

// place is where a test's class with a number stands.
func place(i int) api.Pos {
	return api.Pos{Line: 10 + i, Col: 100 - i}
}

// placed is a program of classes, each at its place.
func placed(classes ...api.Class) api.Program {
	for i := range classes {
		classes[i].At = place(i)
	}
	return api.Program{Classes: classes}
}

// made is a table that must be there.
func made(t *testing.T, p api.Program) *hier.Table {
	t.Helper()
	x, fault := hier.New(p)
	if x == nil || fault != (api.Fault{}) {
		t.Fatalf("P8.1: New: %v, %v", x, fault)
	}
	return x
}

// read is the table of classes' text.
func read(t *testing.T, text string) *hier.Table {
	t.Helper()
	p, fault := parse.Parse(text + "\nmain { }")
	if fault.Err != api.OK {
		t.Fatalf("%q: %v", text, fault)
	}
	return made(t, p)
}

// row is what a table tells of one class.
type row struct {
	name  string
	face  bool
	super int
	right []int
	above []int
}

// wantTable holds all that a table tells of its classes against rows.
func wantTable(t *testing.T, what string, x *hier.Table, rows ...row) {
	t.Helper()
	if x.Len() != len(rows) {
		t.Errorf("P8.1: %s: Len %d, want %d", what, x.Len(), len(rows))
	}
	for i, r := range rows {
		if n, ok := x.Index(r.name); n != i || !ok {
			t.Errorf("P8.1: %s: Index(%q) %d, %v, want %d", what, r.name, n, ok, i)
		}
		if x.Name(i) != r.name || x.Face(i) != r.face || x.Super(i) != r.super {
			t.Errorf("P8.1: %s: %d: %q, %v, %d, want %v", what, i, x.Name(i), x.Face(i), x.Super(i), r)
		}
		if got := x.Right(i); !slices.Equal(got, r.right) {
			t.Errorf("P8.1: %s: Right(%d) %v, want %v", what, i, got, r.right)
		}
		if got := x.Above(i); !slices.Equal(got, r.above) {
			t.Errorf("P8.2: %s: Above(%d) %v, want %v", what, i, got, r.above)
		}
	}
}

func wantOrder(t *testing.T, what string, x *hier.Table, want ...int) {
	t.Helper()
	if got := x.Order(); !slices.Equal(got, want) {
		t.Errorf("P8.2: %s: Order %v, want %v", what, got, want)
	}
}

func wantAbove(t *testing.T, x *hier.Table, is []int, want ...int) {
	t.Helper()
	if got := x.Above(is...); !slices.Equal(got, want) {
		t.Errorf("P8.2: Above(%v) %v, want %v", is, got, want)
	}
}

func TestExample(t *testing.T) {
	x := read(t, "class A extends B { } class B { }")
	wantTable(t, "the example", x, row{"A", false, 1, []int{1}, []int{0, 1}}, row{"B", false, -1, nil, []int{1}})
	wantOrder(t, "the example", x, 1, 0)
}

func TestNoClasses(t *testing.T) {
	for _, p := range []api.Program{{}, {Classes: []api.Class{}}} {
		x := made(t, p)
		wantTable(t, "no classes", x)
		wantOrder(t, "no classes", x)
		wantAbove(t, x, []int{0, 1, -1})
	}
}

const familyText = `
class Duck extends Bird implements Swims, Flies { }
class Bird extends Animal implements Flies { }
interface Swims extends Moves { }
interface Moves { }
class Animal { }
interface Flies extends Quick, Moves { }
interface Quick { }
class Stone { }
class Fish extends Animal implements Swims { }
`

func family(t *testing.T) *hier.Table {
	t.Helper()
	return read(t, familyText)
}

func TestTable(t *testing.T) {
	x := family(t)
	wantTable(t, "a family", x,
		row{"Duck", false, 1, []int{1, 2, 5}, []int{0, 1, 2, 3, 4, 5, 6}},
		row{"Bird", false, 4, []int{4, 5}, []int{1, 3, 4, 5, 6}},
		row{"Swims", true, -1, []int{3}, []int{2, 3}},
		row{"Moves", true, -1, nil, []int{3}},
		row{"Animal", false, -1, nil, []int{4}},
		row{"Flies", true, -1, []int{6, 3}, []int{3, 5, 6}},
		row{"Quick", true, -1, nil, []int{6}},
		row{"Stone", false, -1, nil, []int{7}},
		row{"Fish", false, 4, []int{4, 2}, []int{2, 3, 4, 8}},
	)
	wantOrder(t, "a family", x, 3, 2, 4, 6, 5, 1, 0, 7, 8)
}

// outside are no numbers of n classes.
func outside(n int) []int {
	return []int{-1, -2, -n, n, n + 1, 1 << 20, 1<<20 + 1, 1 << 32, 1<<32 + 1, math.MinInt, math.MaxInt}
}

func TestOfNone(t *testing.T) {
	x := family(t)
	for _, i := range outside(9) {
		if x.Name(i) != "" || x.Face(i) || x.Super(i) != -1 || len(x.Right(i)) != 0 || len(x.Above(i)) != 0 {
			t.Errorf("P8.1: of %d: %q, %v, %d, %v, %v", i, x.Name(i), x.Face(i), x.Super(i), x.Right(i), x.Above(i))
		}
	}
	for _, name := range []string{"", "duck", "Duc", "Ducks", "Duck ", "Duck[]", "int", "null", "main"} {
		if i, ok := x.Index(name); i != 0 || ok {
			t.Errorf("P8.1: Index(%q) %d, %v", name, i, ok)
		}
	}
}

func TestAbove(t *testing.T) {
	x := family(t)
	wantAbove(t, x, nil)
	wantAbove(t, x, []int{})
	wantAbove(t, x, []int{7, 7, 7}, 7)
	wantAbove(t, x, []int{7, 3}, 3, 7)
	wantAbove(t, x, []int{8, 6}, 2, 3, 4, 6, 8)
	wantAbove(t, x, []int{3, 2, 8}, 2, 3, 4, 8)
	wantAbove(t, x, []int{2, 1}, 1, 2, 3, 4, 5, 6)
	wantAbove(t, x, []int{8, 7, 6, 5, 4, 3, 2, 1, 0}, 0, 1, 2, 3, 4, 5, 6, 7, 8)
	wantAbove(t, x, outside(9))
	for _, i := range outside(9) {
		wantAbove(t, x, []int{i, 2, i, 7, i}, 2, 3, 7)
	}
}

func TestOrder(t *testing.T) {
	cases := []struct {
		text string
		want []int
	}{
		{"class A { } class B { } interface C { }", []int{0, 1, 2}},
		{"class A extends B { } class B extends C { } class C { }", []int{2, 1, 0}},
		{"class A { } class B extends A { } class C extends B { }", []int{0, 1, 2}},
		{"class A extends D { } class B { } class C { } class D { }", []int{1, 2, 3, 0}},
		{"class A extends C { } class B extends D { } class C { } class D { } class E { }", []int{2, 0, 3, 1, 4}},
		{"class A extends B implements I { } class B { } class C { } interface I { } class D { }", []int{1, 2, 3, 0, 4}},
		{"interface I extends J, K { } interface J extends L { } interface K extends L { } interface L { }", []int{3, 1, 2, 0}},
		{"class A extends C { } class B extends C { } class C extends E { } class D { } class E { } class F extends A { }", []int{3, 4, 2, 0, 1, 5}},
	}
	for _, c := range cases {
		wantOrder(t, c.text, read(t, c.text), c.want...)
	}
}

// TestAnyNames: a name may be any text; only one without octets as a Super is none.
func TestAnyNames(t *testing.T) {
	x := made(t, placed(class("", "a b"), class("a b", ""), face("int", "\x00"), face("\x00"), class("A[]", "", "int")))
	wantTable(t, "names that are none", x,
		row{"", false, 1, []int{1}, []int{0, 1}},
		row{"a b", false, -1, nil, []int{1}},
		row{"int", true, -1, []int{3}, []int{2, 3}},
		row{"\x00", true, -1, nil, []int{3}},
		row{"A[]", false, -1, []int{2}, []int{2, 3, 4}},
	)
	y := made(t, placed(class("A", "", ""), face("")))
	wantTable(t, "an interface without a name", y, row{"A", false, -1, []int{1}, []int{0, 1}}, row{"", true, -1, nil, []int{1}})
}

// TestInterfaceWithASuper: no text has one, but what is right of a class is so of an interface.
func TestInterfaceWithASuper(t *testing.T) {
	below := face("I", "J")
	below.Super = "C"
	x := made(t, placed(below, face("J"), class("C", "")))
	wantTable(t, "an interface with a Super", x,
		row{"I", true, 2, []int{2, 1}, []int{0, 1, 2}},
		row{"J", true, -1, nil, []int{1}},
		row{"C", false, -1, nil, []int{2}},
	)
	wantOrder(t, "an interface with a Super", x, 1, 2, 0)
}

// TestOnlyHeadsCount: what a class has beside its name and what is above it is nothing to its table.
func TestOnlyHeadsCount(t *testing.T) {
	c := class("A", "")
	twice := []api.Var{{Type: "Nobody", Name: "f"}, {Type: "void", Name: "f"}}
	c.Fields, c.Statics = twice, twice
	c.Methods = []api.Method{{Ret: "?", Name: "m"}, {Ret: "!", Name: "m", Bare: true}}
	p := placed(c)
	p.Main = c.Methods[0]
	wantTable(t, "a class with members", made(t, p), row{"A", false, -1, nil, []int{0}})
}

// TestOthersDoNotPanic: of tables that New didn't answer nothing is promised but this.
func TestOthersDoNotPanic(t *testing.T) {
	for _, x := range []*hier.Table{nil, {}} {
		x.Index("A")
		x.Name(0)
		x.Face(0)
		x.Super(0)
		x.Right(0)
		x.Above()
		x.Above(0, 1)
		if x.Len() != 0 || len(x.Order()) != 0 {
			t.Error("a table that New didn't answer has classes")
		}
	}
}

func TestWhatIsHandedInIsNeitherChangedNorKept(t *testing.T) {
	program := func() api.Program {
		room := []string{"I", "J", "K", "I"}
		return placed(class("A", "B", room[:2]...), class("B", ""), face("I", room[1:2]...), face("J"), face("K"))
	}
	rows := []row{
		{"A", false, 1, []int{1, 2, 3}, []int{0, 1, 2, 3}},
		{"B", false, -1, nil, []int{1}},
		{"I", true, -1, []int{3}, []int{2, 3}},
		{"J", true, -1, nil, []int{3}},
		{"K", true, -1, nil, []int{4}},
	}
	p := program()
	x := made(t, p)
	wantTable(t, "ahead of changes", x, rows...)
	x.Order()
	if !reflect.DeepEqual(p, program()) || !slices.Equal(p.Classes[0].Faces[:4], []string{"I", "J", "K", "I"}) {
		t.Errorf("P8.3: what New was handed is %v now", p)
	}
	for i := range p.Classes {
		p.Classes[i].Name, p.Classes[i].Super, p.Classes[i].Face = "changed", "changed", !p.Classes[i].Face
		for j := range p.Classes[i].Faces {
			p.Classes[i].Faces[j] = "changed"
		}
	}
	wantTable(t, "behind a change of what New was handed", x, rows...)
	wantOrder(t, "behind a change of what New was handed", x, 1, 3, 2, 0, 4)

	is := []int{2, 9, 2, 4, 1, 0}
	wantAbove(t, x, is[:4], 2, 3, 4)
	if !slices.Equal(is, []int{2, 9, 2, 4, 1, 0}) {
		t.Errorf("P8.3: what Above was handed is %v now", is)
	}
}

// TestNamesAreNotKept overwrites the octets of which names were made: no name of a table may change with them.
func TestNamesAreNotKept(t *testing.T) {
	octets := []byte("ABI")
	name := func(i int) string { return unsafe.String(&octets[i], 1) }
	x := made(t, placed(class(name(0), name(1), name(2)), class(name(1), ""), face(name(2))))
	copy(octets, "???")
	wantTable(t, "behind a change of names' octets", x,
		row{"A", false, 1, []int{1, 2}, []int{0, 1, 2}},
		row{"B", false, -1, nil, []int{1}},
		row{"I", true, -1, nil, []int{2}},
	)
}

func TestAnswersAreNewMemory(t *testing.T) {
	x := family(t)
	ask := []func() []int{
		func() []int { return x.Right(0) },
		func() []int { return x.Right(1) },
		func() []int { return x.Above(0) },
		func() []int { return x.Above(3) },
		x.Order,
	}
	var want, kept [][]int
	for _, answer := range ask {
		want = append(want, slices.Clone(answer()))
		kept = append(kept, answer())
	}
	for _, answer := range ask {
		list := answer()
		for i := range list {
			list[i] = 7
		}
		_ = append(list[:0], slices.Repeat([]int{8}, cap(list))...)
	}
	for i, answer := range ask {
		if got := answer(); !slices.Equal(got, want[i]) || !slices.Equal(kept[i], want[i]) {
			t.Errorf("P8.3: behind a change of an answer: %v, kept %v, want %v", got, kept[i], want[i])
		}
	}
}
