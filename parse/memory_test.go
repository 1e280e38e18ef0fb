package parse_test

import (
	"reflect"
	"slices"
	"strings"
	"testing"
	"unsafe"

	"winnower/api"
	"winnower/parse"
)

// span is where a list lies, its spare room included.
type span struct {
	from, to uintptr
}

// spans are those of all lists in a value.
func spans(v reflect.Value) []span {
	var all []span
	switch v.Kind() {
	case reflect.Slice:
		if v.Cap() > 0 {
			all = append(all, span{v.Pointer(), v.Pointer() + uintptr(v.Cap())*v.Type().Elem().Size()})
		}
		for i := range v.Len() {
			all = append(all, spans(v.Index(i))...)
		}
	case reflect.Struct:
		for i := range v.NumField() {
			all = append(all, spans(v.Field(i))...)
		}
	case reflect.Pointer:
		if !v.IsNil() {
			all = append(all, span{v.Pointer(), v.Pointer() + v.Type().Elem().Size()})
			all = append(all, spans(v.Elem())...)
		}
	}
	return all
}

// wantApart asks that no two lists of these answers share memory.
func wantApart(t *testing.T, answers ...any) {
	t.Helper()
	var all []span
	for _, answer := range answers {
		all = append(all, spans(reflect.ValueOf(answer))...)
	}
	slices.SortFunc(all, func(a, b span) int {
		if a.from < b.from {
			return -1
		}
		return 1
	})
	for i := 1; i < len(all); i++ {
		if all[i].from < all[i-1].to {
			t.Fatalf("P7.3: two lists share memory")
		}
	}
	if len(all) == 0 {
		t.Errorf("no lists to hold against each other")
	}
}

const nestText = "try { if (a < b) { x.f(a, b, c); y.f(a, b, c, d, e); } else { T::f(a); return; return; } } catch (T x) { while (a < b) { x = y.f(a); } }"

func TestAnswersAreNewMemory(t *testing.T) {
	first, _ := parse.Parse(wholeText)
	second, _ := parse.Parse(wholeText)
	wantApart(t, first, second)
	one, _ := parse.Stmt(nestText)
	two, _ := parse.Stmt(nestText)
	wantApart(t, one, two)
	d := dice(17)
	for range 200 {
		m := maker{dice: &d}
		m.program()
		text, _ := d.layout(m.tokens)
		if p, fault := parse.Parse(text); fault == (api.Fault{}) && len(p.Classes) > 0 {
			wantApart(t, p)
		}
	}
}

// TestChangedAnswers: what is done to an answer is nothing to the next one.
func TestChangedAnswers(t *testing.T) {
	p, _ := parse.Parse(wholeText)
	for i := range p.Classes {
		c := &p.Classes[i]
		if c.Init != nil {
			*c.Init = api.Method{Name: "changed"}
		}
		clear(c.Fields)
		clear(c.Methods)
		clear(c.Faces)
	}
	clear(p.Classes)
	clear(p.Main.Body)
	if again, fault := parse.Parse(wholeText); fault != (api.Fault{}) || !reflect.DeepEqual(nilled(again), whole()) {
		t.Errorf("P7.3: behind a change of an answer: %v, %v", again, fault)
	}
	if _, fault := parse.Parse("main { x }"); fault.Err != api.ErrSyntax {
		t.Errorf("P7.1: %v", fault)
	}
	if again, fault := parse.Parse(wholeText); fault != (api.Fault{}) || !reflect.DeepEqual(nilled(again), whole()) {
		t.Errorf("P7.3: behind a fault: %v, %v", again, fault)
	}
}

// TestTextsAreNewMemory overwrites the octets of which a text was made: no name may change with them.
func TestTextsAreNewMemory(t *testing.T) {
	octets := []byte(wholeText)
	p, _ := parse.Parse(unsafe.String(&octets[0], len(octets)))
	for i := range octets {
		octets[i] = '?'
	}
	if !reflect.DeepEqual(nilled(p), whole()) {
		t.Errorf("P7.3: names are pieces of what was handed in: %v", p)
	}
	octets = []byte(nestText)
	want, _ := parse.Stmt(nestText)
	got, _ := parse.Stmt(unsafe.String(&octets[0], len(octets)))
	for i := range octets {
		octets[i] = '?'
	}
	if !reflect.DeepEqual(got, want) {
		t.Errorf("P7.3: names are pieces of what was handed in: %v", got)
	}
}

// TestAnyText: every text has an answer, and beside a fault nothing.
func TestAnyText(t *testing.T) {
	d := dice(19)
	for range 20000 {
		octets := make([]byte, d.roll(12))
		for i := range octets {
			octets[i] = byte(d.roll(256))
		}
		var tokens []string
		for range d.roll(12) {
			tokens = append(tokens, vocabulary[d.roll(len(vocabulary))])
		}
		for _, text := range []string{string(octets), strings.Join(tokens, " "), "main {" + strings.Join(tokens, " ")} {
			p, fault := parse.Parse(text)
			if fault != (api.Fault{}) && !reflect.DeepEqual(p, api.Program{}) || fault == (api.Fault{}) && p.Main.Name != "main" {
				t.Errorf("P7.1: %q: %v, %v", text, p, fault)
			}
			s, fault := parse.Stmt(text)
			if fault != (api.Fault{}) && !reflect.DeepEqual(s, api.Stmt{}) || fault == (api.Fault{}) && s.At.Line == 0 {
				t.Errorf("P7.2: %q: %v, %v", text, s, fault)
			}
		}
		wantModel(t, "program", tokens)
		wantModel(t, "stmt", tokens)
	}
	for _, piece := range []string{"{", "(", "if (a < b) {", "try {", "x = (", "a, ", "class A {", "x.", "x::", "static "} {
		wantModel(t, "program", texts(t, "main { "+times(500, piece)))
		wantModel(t, "stmt", texts(t, times(500, piece)))
	}
}
