package member_test

import (
	"reflect"
	"slices"
	"testing"
	"unsafe"

	"winnower/api"
	"winnower/member"
)

// small is a program of which wantSmall knows all.
func small() api.Program {
	b := with(class("B", ""), method("A", "m", "int", "B[]"))
	b.Fields = []api.Var{variable("int", "f"), variable("B", "g")}
	b.Statics = []api.Var{variable("A[]", "s")}
	a := class("A", "B", "I")
	a.Fields = []api.Var{variable("A", "h")}
	return placed(a, b, with(face("I"), bare(method("A", "m", "int", "B[]"))))
}

func wantSmall(t *testing.T, m *member.Members) {
	t.Helper()
	f := api.Member{Class: 1, Name: "f", Type: "int"}
	g := api.Member{Class: 1, Name: "g", Type: "B"}
	h := api.Member{Class: 0, Name: "h", Type: "A"}
	wantFields(t, m, 0, f, g, h)
	wantMember(t, "Field", m.Field, 0, "f", f)
	wantMember(t, "Static", m.Static, 0, "s", api.Member{Class: 1, Name: "s", Type: "A[]", Static: true})
	params := []string{"int", "B[]"}
	wantMember(t, "Method", m.Method, 0, "m", api.Member{Class: 1, Name: "m", Type: "A", Params: params})
	wantMember(t, "Method", m.Method, 2, "m", api.Member{Class: 2, Name: "m", Type: "A", Params: params, Bare: true})
	wantDispatch(t, m, 0, "m", 1)
	if !m.Types().Is("A", "B[]", "I") || m.Types().Is("C") {
		t.Errorf("P10.3: the types are others now")
	}
}

func TestWhatIsHandedInIsNotKept(t *testing.T) {
	p := small()
	m, _ := member.New(p)
	if !reflect.DeepEqual(p, small()) {
		t.Errorf("P10.3: what New was handed is %+v now", p)
	}
	for i := range p.Classes {
		c := &p.Classes[i]
		for _, vars := range [][]api.Var{c.Fields, c.Statics} {
			for j := range vars {
				vars[j] = variable("C", "changed")
			}
		}
		for j := range c.Methods {
			slices.Reverse(c.Methods[j].Params)
			c.Methods[j].Ret, c.Methods[j].Name, c.Methods[j].Static = "C", "changed", true
		}
		*c = class("C", "")
	}
	wantSmall(t, m)
}

// TestSpareRoomIsNotChanged: nothing is put behind a list that is handed in.
func TestSpareRoomIsNotChanged(t *testing.T) {
	params := []api.Var{variable("int", "x"), variable("int", "y"), variable("spare", "spare")}
	vars := []api.Var{variable("int", "f"), variable("spare", "spare")}
	m := api.Method{Ret: "int", Name: "m", Params: params[:2]}
	methods := []api.Method{m, method("spare", "spare")}
	a := api.Class{Name: "A", Fields: vars[:1], Methods: methods[:1]}
	wantRight(t, "lists with spare room", api.Program{Classes: []api.Class{a}})
	if params[2].Name != "spare" || vars[1].Name != "spare" || methods[1].Name != "spare" {
		t.Errorf("P10.3: spare room is changed: %v, %v, %v", params, vars, methods)
	}
}

func TestAnswersAreNewMemory(t *testing.T) {
	m, _ := member.New(small())
	kept, _ := m.Method(0, "m")
	fields := m.Fields(0)
	for _, class := range []int{0, 1, 2} {
		x, _ := m.Method(class, "m")
		x.Params[0] = "changed"
		_ = append(x.Params[:1], slices.Repeat([]string{"put behind"}, cap(x.Params))...)
		list := m.Fields(class)
		clear(list)
		_ = append(list[:0], slices.Repeat([]api.Member{{Name: "put behind"}}, cap(list))...)
	}
	wantSmall(t, m)
	if !slices.Equal(kept.Params, []string{"int", "B[]"}) || len(fields) != 3 || fields[0].Name != "f" || fields[2].Name != "h" {
		t.Errorf("P10.3: answers that are kept are %v, %v now", kept, fields)
	}
}

// TestTextsAreNotKept overwrites the octets of the texts that New was handed: no answer may change with them.
func TestTextsAreNotKept(t *testing.T) {
	octets := []byte("ABICfghsmintA[]B[]")
	text := func(from, to int) string { return unsafe.String(&octets[from], to-from) }
	a, b, i := text(0, 1), text(1, 2), text(2, 3)
	f, g, h, s, m := text(4, 5), text(5, 6), text(6, 7), text(7, 8), text(8, 9)
	number, as, bs := text(9, 12), text(12, 15), text(15, 18)
	lower := class(a, b, i)
	lower.Fields = []api.Var{variable(a, h)}
	upper := with(class(b, ""), method(a, m, number, bs))
	upper.Fields = []api.Var{variable(number, f), variable(b, g)}
	upper.Statics = []api.Var{variable(as, s)}
	x := wantRight(t, "texts", placed(lower, upper, with(face(i), bare(method(a, m, number, bs)))))
	field, _ := x.Field(0, f)
	copy(octets, slices.Repeat([]byte("?"), len(octets)))
	wantSmall(t, x)
	if field.Name != "f" || field.Type != "int" {
		t.Errorf("P10.3: behind a change of texts' octets: %v", field)
	}
}
