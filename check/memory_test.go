package check_test

import (
	"reflect"
	"slices"
	"testing"
	"unsafe"

	"winnower/api"
	"winnower/check"
	"winnower/member"
)

const smallText = `class A extends B { field A f; init { var A a; a = new A; } method A m(int i, A a) { var int n; if (i < n) { a = a.m(n, this); } else { a.f = a; } return a; } static method void s() { } }
class B { } interface I { method void k(B b); }
main { var A a; var int i; try { a = a.m(i, a); A::s(); } catch (A a) { a = null; } while (i < i) { i = input; } }`

func TestWhatIsHandedInIsNotChanged(t *testing.T) {
	p := program(t, smallText)
	wantFits(t, "a small program", p)
	check.Scope(p, 0, p.Classes[0].Methods[0])
	check.Scope(p, -1, p.Main)
	if !reflect.DeepEqual(p, program(t, smallText)) {
		t.Errorf("P11.3: what was handed in is %+v now", p)
	}
}

// wantSmall holds what members of the small program answer against what they must.
func wantSmall(t *testing.T, m *member.Members) {
	t.Helper()
	x, found := m.Method(0, "m")
	if !found || x.Name != "m" || x.Type != "A" || !slices.Equal(x.Params, []string{"int", "A"}) {
		t.Errorf("P11.3: Method: %v, %v", x, found)
	}
	if f, found := m.Field(0, "f"); !found || f.Name != "f" || f.Type != "A" {
		t.Errorf("P11.3: Field: %v, %v", f, found)
	}
	if !m.Types().Below("A", "B") || m.Types().Below("B", "A") || !m.Types().Is("I", "A[]") {
		t.Error("P11.3: the types are others now")
	}
}

func TestWhatIsHandedInIsNotKept(t *testing.T) {
	p := program(t, smallText)
	m := wantFits(t, "a small program", p)
	again := wantFits(t, "a small program again", p)
	for i := range p.Classes {
		c := &p.Classes[i]
		clear(c.Fields)
		for j := range c.Methods {
			clear(c.Methods[j].Params)
			clear(c.Methods[j].Body)
		}
		clear(c.Methods)
		*c = api.Class{Name: "C"}
	}
	wantSmall(t, m)
	wantSmall(t, again)
	if m == again {
		t.Error("P11.3: two answers are one")
	}
}

// TestSpareRoomIsNotChanged: nothing is put behind a list that is handed in.
func TestSpareRoomIsNotChanged(t *testing.T) {
	spare := api.Var{Type: "spare", Name: "spare"}
	params := []api.Var{{Type: "int", Name: "i"}, spare, spare, spare}
	locals := []api.Var{{Type: "int", Name: "j"}, spare, spare}
	body := []api.Stmt{{Do: api.DoInt, X: "i"}, {Do: -1, X: "spare"}}
	x := api.Method{Ret: "void", Name: "m", Params: params[:1], Locals: locals[:1], Body: body[:1]}
	methods := []api.Method{x, {Name: "spare"}}
	p := api.Program{Classes: []api.Class{{Name: "A", Init: &x, Methods: methods[:1]}}}
	wantFits(t, "lists with spare room", p)
	check.Scope(p, 0, x)
	check.Scope(p, -1, x)
	if params[1] != spare || params[2] != spare || params[3] != spare || locals[1] != spare || locals[2] != spare || body[1].X != "spare" || methods[1].Name != "spare" {
		t.Errorf("P11.3: spare room is changed: %v, %v, %v, %v", params, locals, body, methods)
	}
}

func TestAnswersAreNewMemory(t *testing.T) {
	p := program(t, smallText)
	for _, x := range []api.Method{p.Classes[0].Methods[0], p.Main, *p.Classes[0].Init} {
		for class := -1; class < 2; class++ {
			first := check.Scope(p, class, x)
			second := check.Scope(p, class, x)
			kept := slices.Clone(second)
			_ = append(first[:0], slices.Repeat([]api.Var{{Name: "put behind"}}, cap(first))...)
			if !slices.Equal(second, kept) {
				t.Errorf("P11.3: an answer that is kept is %v now", second)
			}
		}
	}
	if !reflect.DeepEqual(p, program(t, smallText)) {
		t.Errorf("P11.3: a change of answers changes what was handed in: %+v", p)
	}
}

// TestTextsAreNotKept overwrites the octets of the texts that were handed in: no answer may change with them.
func TestTextsAreNotKept(t *testing.T) {
	octets := []byte("Aintij")
	text := func(from, to int) string { return unsafe.String(&octets[from], to-from) }
	x := api.Method{
		Params: []api.Var{{Type: text(1, 4), Name: text(4, 5)}},
		Locals: []api.Var{{Type: text(0, 1), Name: text(5, 6)}},
	}
	p := api.Program{Classes: []api.Class{{Name: text(0, 1)}}}
	got := check.Scope(p, 0, x)
	copy(octets, slices.Repeat([]byte("?"), len(octets)))
	want := []api.Var{{Type: "A", Name: "this"}, {Type: "int", Name: "i"}, {Type: "A", Name: "j"}}
	if !slices.Equal(got, want) {
		t.Errorf("P11.3: behind a change of texts' octets: %v, want %v", got, want)
	}
}
