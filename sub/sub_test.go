package sub_test

import (
	"slices"
	"testing"
	"unsafe"

	"winnower/api"
	"winnower/hier"
	"winnower/parse"
	"winnower/sub"
)

// class is one by its head.
func class(name, super string, faces ...string) api.Class {
	return api.Class{Name: name, Super: super, Faces: faces}
}

// face is an interface by its head.
func face(name string, faces ...string) api.Class {
	return api.Class{Name: name, Face: true, Faces: faces}
}

// made are the types of classes that are right.
func made(t *testing.T, classes ...api.Class) *sub.Types {
	t.Helper()
	h, fault := hier.New(api.Program{Classes: classes})
	if fault.Err != api.OK {
		t.Fatalf("%v: %v", classes, fault)
	}
	x, err := sub.New(h)
	if x == nil || err != api.OK {
		t.Fatalf("P9.1: New: %v, %v", x, err)
	}
	return x
}

// read are the types of classes' text.
func read(t *testing.T, text string) *sub.Types {
	t.Helper()
	p, fault := parse.Parse(text + "\nmain { }")
	if fault.Err != api.OK {
		t.Fatalf("%q: %v", text, fault)
	}
	return made(t, p.Classes...)
}

// kind is what types tell of a text by itself: none of it, if it is no type.
type kind struct {
	is, ref, array, class bool
	elem                  string
	number                int
}

// wantKind holds all that is told of a text by itself against what must be.
func wantKind(t *testing.T, x *sub.Types, text string, want kind) {
	t.Helper()
	got := kind{is: x.Is(text), ref: x.Ref(text)}
	got.elem, got.array = x.Elem(text)
	got.number, got.class = x.Class(text)
	if got != want {
		t.Errorf("P9.1: of %q: %+v, want %+v", text, got, want)
	}
}

func wantBelow(t *testing.T, x *sub.Types, lower, upper string, want bool) {
	t.Helper()
	if got := x.Below(lower, upper); got != want {
		t.Errorf("P9.2: Below(%q, %q) %v", lower, upper, got)
	}
}

func wantUnder(t *testing.T, x *sub.Types, text string, want ...string) {
	t.Helper()
	if got := x.Under(text); !slices.Equal(got, want) {
		t.Errorf("P9.2: Under(%q) %q, want %q", text, got, want)
	}
}

func TestExample(t *testing.T) {
	x := read(t, "class A extends B { } class B { }")
	wantBelow(t, x, "A", "B", true)
	wantBelow(t, x, "B", "A", false)
	wantBelow(t, x, "A[]", "B[]", false)
	wantBelow(t, x, "null", "A[]", true)
	wantUnder(t, x, "B", "A", "B")
}

func TestNoTable(t *testing.T) {
	if x, err := sub.New(nil); x != nil || err != api.ErrArg {
		t.Errorf("P9.1: New(nil): %v, %v", x, err)
	}
}

func TestNoClasses(t *testing.T) {
	x := made(t)
	wantKind(t, x, "int", kind{is: true})
	wantKind(t, x, "null", kind{is: true, ref: true})
	for _, text := range []string{"", "A", "[]", "A[]", "int[]", "null[]", "void"} {
		wantKind(t, x, text, kind{})
		wantUnder(t, x, text)
	}
	wantBelow(t, x, "int", "int", true)
	wantBelow(t, x, "null", "null", true)
	wantBelow(t, x, "null", "int", false)
	wantBelow(t, x, "int", "null", false)
}

const familyText = `
class Duck extends Bird implements Swims, Flies { }
class Bird extends Animal implements Flies { }
interface Swims extends Moves { }
interface Moves { }
class Animal { }
interface Flies extends Quick, Moves { }
interface Quick { }
class Stone { }
class Fish extends Animal implements Swims { }
`

func family(t *testing.T) *sub.Types {
	t.Helper()
	return read(t, familyText)
}

var familyNames = []string{"Duck", "Bird", "Swims", "Moves", "Animal", "Flies", "Quick", "Stone", "Fish"}

// noTypes are no types of the family.
var noTypes = []string{
	"", " ", "[", "]", "[]", "[][]", "duck", "Duc", "Ducks", "Duck ", " Duck", "Duck[", "Duck]", "Duck[][]", "Duck[ ]", "Duck []", "Duck[0]", "[]Duck", "[Duck]",
	"int[]", "null[]", "int[][]", "Int", "in", "ints", "Null", "nul", "nulls", "void", "void[]", "this", "main", "class", "Duck\x00", "\xff", "Duck,Bird", "DuckBird",
}

func TestKinds(t *testing.T) {
	x := family(t)
	wantKind(t, x, "int", kind{is: true})
	wantKind(t, x, "null", kind{is: true, ref: true})
	for i, name := range familyNames {
		wantKind(t, x, name, kind{is: true, ref: true, class: true, number: i})
		wantKind(t, x, name+"[]", kind{is: true, ref: true, array: true, elem: name})
	}
	for _, text := range noTypes {
		wantKind(t, x, text, kind{})
	}
}

func TestAreAllTypes(t *testing.T) {
	x := family(t)
	all := []string{"int", "null", "Duck", "Moves", "Stone[]", "Duck"}
	for i := range len(all) + 1 {
		if !x.Is(all[:i]...) {
			t.Errorf("P9.1: Is(%q) false", all[:i])
		}
		for _, text := range noTypes {
			if x.Is(slices.Insert(slices.Clone(all), i, text)...) {
				t.Errorf("P9.1: Is of types, and %q at %d: true", text, i)
			}
		}
	}
	if x.Is(noTypes...) {
		t.Errorf("P9.1: Is of none that is a type: true")
	}
}

// familyAbove are those above each of the family, and itself.
var familyAbove = map[string][]string{
	"Duck":   {"Duck", "Bird", "Swims", "Moves", "Animal", "Flies", "Quick"},
	"Bird":   {"Bird", "Moves", "Animal", "Flies", "Quick"},
	"Swims":  {"Swims", "Moves"},
	"Moves":  {"Moves"},
	"Animal": {"Animal"},
	"Flies":  {"Flies", "Quick", "Moves"},
	"Quick":  {"Quick"},
	"Stone":  {"Stone"},
	"Fish":   {"Fish", "Animal", "Swims", "Moves"},
}

func TestBelow(t *testing.T) {
	x := family(t)
	for _, lower := range familyNames {
		for _, upper := range familyNames {
			wantBelow(t, x, lower, upper, slices.Contains(familyAbove[lower], upper))
			wantBelow(t, x, lower+"[]", upper+"[]", lower == upper)
			wantBelow(t, x, lower+"[]", upper, false)
			wantBelow(t, x, lower, upper+"[]", false)
		}
		for _, text := range []string{lower, lower + "[]"} {
			wantBelow(t, x, "null", text, true)
			wantBelow(t, x, text, "null", false)
			wantBelow(t, x, "int", text, false)
			wantBelow(t, x, text, "int", false)
		}
	}
	wantBelow(t, x, "int", "int", true)
	wantBelow(t, x, "null", "null", true)
	wantBelow(t, x, "null", "int", false)
	wantBelow(t, x, "int", "null", false)
}

func TestBelowOfNoTypes(t *testing.T) {
	x := family(t)
	for _, text := range noTypes {
		wantBelow(t, x, text, text, false)
		for _, other := range []string{"int", "null", "Duck", "Moves", "Duck[]", "Nobody"} {
			wantBelow(t, x, text, other, false)
			wantBelow(t, x, other, text, false)
		}
	}
}

func TestUnder(t *testing.T) {
	x := family(t)
	wantUnder(t, x, "Duck", "Duck")
	wantUnder(t, x, "Bird", "Duck", "Bird")
	wantUnder(t, x, "Swims", "Duck", "Fish")
	wantUnder(t, x, "Moves", "Duck", "Bird", "Fish")
	wantUnder(t, x, "Animal", "Duck", "Bird", "Animal", "Fish")
	wantUnder(t, x, "Flies", "Duck", "Bird")
	wantUnder(t, x, "Quick", "Duck", "Bird")
	wantUnder(t, x, "Stone", "Stone")
	wantUnder(t, x, "Fish", "Fish")
	for _, name := range familyNames {
		wantUnder(t, x, name+"[]", name+"[]")
	}
	for _, text := range append([]string{"int", "null"}, noTypes...) {
		wantUnder(t, x, text)
	}
	wantUnder(t, read(t, "interface I { } interface J extends I { }"), "I")
}

// TestOthersDoNotPanic: of types that New didn't answer nothing is promised but this.
func TestOthersDoNotPanic(t *testing.T) {
	for _, x := range []*sub.Types{nil, {}} {
		for _, text := range []string{"", "int", "null", "A", "A[]", "[]"} {
			x.Is()
			x.Is(text, text)
			x.Ref(text)
			x.Elem(text)
			x.Class(text)
			x.Under(text)
			x.Below(text, text)
			x.Below(text, "A")
			x.Below("null", text)
		}
	}
	x, err := sub.New(&hier.Table{})
	if x == nil || err != api.OK || !x.Is("int", "null") || x.Is("A") || len(x.Under("A")) != 0 {
		t.Errorf("P9.1: types of a table that its maker didn't answer: %v, %v", x, err)
	}
}

// wantSmall holds a small program's types against what must be.
func wantSmall(t *testing.T, x *sub.Types) {
	t.Helper()
	wantKind(t, x, "A", kind{is: true, ref: true, class: true})
	wantKind(t, x, "B", kind{is: true, ref: true, class: true, number: 1})
	wantKind(t, x, "A[]", kind{is: true, ref: true, array: true, elem: "A"})
	wantBelow(t, x, "A", "B", true)
	wantBelow(t, x, "B", "A", false)
	wantUnder(t, x, "B", "A", "B")
	wantUnder(t, x, "A[]", "A[]")
}

func TestWhatIsHandedInIsNotChanged(t *testing.T) {
	h, _ := hier.New(api.Program{Classes: []api.Class{class("A", "B"), class("B", "")}})
	x, _ := sub.New(h)
	wantSmall(t, x)
	if !slices.Equal(h.Order(), []int{1, 0}) || h.Len() != 2 || h.Name(0) != "A" || !slices.Equal(h.Right(0), []int{1}) || len(h.Right(1)) != 0 {
		t.Errorf("P9.3: the table that New was handed is another one now")
	}
	texts := []string{"A", "B", "?", "int"}
	if !x.Is(texts[:2]...) || !slices.Equal(texts, []string{"A", "B", "?", "int"}) {
		t.Errorf("P9.3: what Is was handed is %q now", texts)
	}
}

func TestAnswersAreNewMemory(t *testing.T) {
	x := read(t, "class A extends B { } class B { }")
	kept := [][]string{x.Under("B"), x.Under("A[]")}
	for _, text := range []string{"B", "A", "A[]"} {
		list := x.Under(text)
		list[0] = "changed"
		_ = append(list[:1], slices.Repeat([]string{"put behind"}, cap(list))...)
	}
	wantSmall(t, x)
	if !slices.Equal(kept[0], []string{"A", "B"}) || !slices.Equal(kept[1], []string{"A[]"}) {
		t.Errorf("P9.3: answers that are kept are %q now", kept)
	}
}

// TestTextsAreNotKept overwrites the octets of the texts that calls were handed: no answer may change with them.
func TestTextsAreNotKept(t *testing.T) {
	octets := []byte("ABA[]")
	text := func(from, to int) string { return unsafe.String(&octets[from], to-from) }
	x := made(t, class(text(0, 1), text(1, 2)), class(text(1, 2), ""))
	elem, _ := x.Elem(text(2, 5))
	array := x.Under(text(2, 5))
	under := x.Under(text(1, 2))
	copy(octets, "?????")
	wantSmall(t, x)
	if elem != "A" || !slices.Equal(array, []string{"A[]"}) || !slices.Equal(under, []string{"A", "B"}) {
		t.Errorf("P9.3: behind a change of texts' octets: %q, %q, %q", elem, array, under)
	}
}
