package show_test

import (
	"strconv"
	"strings"
	"testing"

	"winnower/api"
	"winnower/show"
)

// model tells a program's text as plainly as can be, to hold the real one against: each call is handed how far in it stands. end is what an end of a line is.
type model struct {
	end   string
	blank string
}

func (m model) row(in, text string) string {
	return in + text + m.end
}

func (m model) stmts(in string, list []api.Stmt) string {
	text := ""
	for _, s := range list {
		text += m.stmt(in, s)
	}
	return text
}

func (m model) stmt(in string, s api.Stmt) string {
	further := in + m.blank
	switch s.Do {
	case api.DoTry:
		return m.row(in, "try {") + m.stmts(further, s.Body) + m.row(in, "} catch ("+s.T+" "+s.X+") {") + m.stmts(further, s.Other) + m.row(in, "}")
	case api.DoIf:
		text := m.row(in, "if ("+s.Y+" < "+s.Z+") {") + m.stmts(further, s.Body)
		if len(s.Other) != 0 {
			text += m.row(in, "} else {") + m.stmts(further, s.Other)
		}
		return text + m.row(in, "}")
	case api.DoWhile:
		return m.row(in, "while ("+s.Y+" < "+s.Z+") {") + m.stmts(further, s.Body) + m.row(in, "}")
	}
	if s.Do < 0 || s.Do > api.DoReturn {
		return ""
	}
	return m.row(in, plain(s))
}

// forms are those of the document's table, with the fields' letters to be filled in; of calls without their X.
var forms = []string{
	"X = new T;", "X = new T[];", "X = null;", "X = Y;", "X = (T) Y;", "X = Y.F;", "X.F = Y;", "X = T::F;", "T::F = Y;", "X = Y[Z];", "X[Z] = Y;",
	"Y.F(A);", "Y.T::F(A);", "T::F(A);", "X = N;", "X = Y + Z;", "X = Y - Z;", "X = input;", "throw X;", "", "", "", "return X;",
}

func plain(s api.Stmt) string {
	form := forms[s.Do]
	if s.X != "" && (s.Do == api.DoCall || s.Do == api.DoSpecial || s.Do == api.DoStatic) {
		form = "X = " + form
	}
	if s.X == "" && s.Do == api.DoReturn {
		form = "return;"
	}
	fill := strings.NewReplacer("X", s.X, "Y", s.Y, "Z", s.Z, "T", s.T, "F", s.F, "A", strings.Join(s.Args, ", "), "N", strconv.Itoa(s.N))
	return fill.Replace(form)
}

func (m model) block(in string, x api.Method) string {
	return m.vars(in, "var", x.Locals) + m.stmts(in, x.Body)
}

func (m model) vars(in, kind string, list []api.Var) string {
	text := ""
	for _, v := range list {
		text += m.row(in, kind+" "+v.Type+" "+v.Name+";")
	}
	return text
}

func (m model) method(x api.Method) string {
	list := ""
	for i, v := range x.Params {
		if i > 0 {
			list += ", "
		}
		list += v.Type + " " + v.Name
	}
	head := "method " + x.Ret + " " + x.Name + "(" + list + ")"
	if x.Bare {
		return m.row(m.blank, head+";")
	}
	if x.Static {
		head = "static " + head
	}
	return m.row(m.blank, head+" {") + m.block(m.blank+m.blank, x) + m.row(m.blank, "}")
}

func (m model) class(c api.Class) string {
	head, faces, text := "class "+c.Name, " implements ", ""
	if c.Face {
		head, faces = "interface "+c.Name, " extends "
	} else {
		if c.Super != "" {
			head += " extends " + c.Super
		}
		text = m.vars(m.blank, "field", c.Fields) + m.vars(m.blank, "static", c.Statics)
		if c.Init != nil {
			text += m.row(m.blank, "init {") + m.block(m.blank+m.blank, *c.Init) + m.row(m.blank, "}")
		}
	}
	if len(c.Faces) > 0 {
		head += faces + strings.Join(c.Faces, ", ")
	}
	for _, x := range c.Methods {
		text += m.method(x)
	}
	return m.row("", head+" {") + text + m.row("", "}")
}

func (m model) program(p api.Program) string {
	text := ""
	for _, c := range p.Classes {
		text += m.class(c)
	}
	return text + m.row("", "main {") + m.block(m.blank, p.Main) + m.row("", "}")
}

var page = model{end: "\n", blank: "  "}

// modelLine is a statement on one line.
func modelLine(s api.Stmt) string {
	return strings.TrimSuffix(model{end: " "}.stmt("", s), " ")
}

// dice answers the same numbers at each run.
type dice uint64

func (d *dice) roll(n int) int {
	*d = *d*6364136223846793005 + 1442695040888963407
	return int(uint64(*d)>>33) % n
}

// names are few, so that texts come again, and some hold what ends a line, or a whole one.
var names = []string{"x", "y", "x", "y", "x", "y", "", " ", "  x", "x;\n", "x;\n  y", "x;\nreturn x", "x;\n  return x", "x;\n    return y", "x[]", "a.b", "{\n}", "\xff", "int"}

func (d *dice) name() string {
	return names[d.roll(len(names))]
}

func (d *dice) names() []string {
	list := make([]string, d.roll(3))
	for i := range list {
		list[i] = d.name()
	}
	return list
}

func (d *dice) vars() []api.Var {
	list := make([]api.Var, d.roll(3))
	for i := range list {
		list[i] = api.Var{Type: d.name(), Name: d.name(), At: d.at()}
	}
	return list
}

func (d *dice) at() api.Pos {
	return api.Pos{Line: d.roll(9), Col: d.roll(9)}
}

func (d *dice) stmt(deep int) api.Stmt {
	return api.Stmt{
		Do: d.roll(26) - 1, X: d.name(), Y: d.name(), Z: d.name(), T: d.name(), F: d.name(), Args: d.names(), N: d.roll(2000) - 500,
		Body: d.stmts(deep - 1), Other: d.stmts(deep - 1), At: d.at(),
	}
}

func (d *dice) stmts(deep int) []api.Stmt {
	if deep < 0 {
		return nil
	}
	list := make([]api.Stmt, d.roll(4))
	for i := range list {
		list[i] = d.stmt(deep)
	}
	return list
}

func (d *dice) method() api.Method {
	return api.Method{Ret: d.name(), Name: d.name(), Static: d.roll(2) == 0, Bare: d.roll(3) == 0, Params: d.vars(), Locals: d.vars(), Body: d.stmts(2), At: d.at()}
}

func (d *dice) class() api.Class {
	c := api.Class{Name: d.name(), Super: d.name(), Face: d.roll(3) == 0, Faces: d.names(), Fields: d.vars(), Statics: d.vars(), At: d.at()}
	for range d.roll(3) {
		c.Methods = append(c.Methods, d.method())
	}
	if d.roll(2) == 0 {
		m := d.method()
		c.Init = &m
	}
	return c
}

func (d *dice) program() api.Program {
	p := api.Program{Main: d.method()}
	for range d.roll(3) {
		p.Classes = append(p.Classes, d.class())
	}
	return p
}

func TestProgramsAgainstModel(t *testing.T) {
	d := dice(1)
	last := api.Program{}
	for range 3000 {
		p := d.program()
		if got, want := show.Program(p), page.program(p); got != want {
			t.Fatalf("P6.1:\n%s\nwant:\n%s", got, want)
		}
		if !show.Same(p, p) || show.Same(p, last) != (page.program(p) == page.program(last)) {
			t.Fatalf("P6.2: Same:\n%s\n%s", page.program(p), page.program(last))
		}
		last = p
	}
}

func TestLinesAgainstModel(t *testing.T) {
	d := dice(2)
	for range 20000 {
		s := d.stmt(3)
		if got, want := show.Line(s), modelLine(s); got != want {
			t.Fatalf("P6.1: %q, want %q", got, want)
		}
	}
}

// fewNames are such that one statement may have the text of several, at one depth or another.
var fewNames = []string{"x", "x", "x", "x", "x;\nreturn x", "x;\n  return x", "x;\n    return x", "x;\n      return x", "x;\n}\nreturn x", "x;\n  }\n  return x"}

// few is a short list of short statements with few names, so that unlike ones have the same text at times.
func (d *dice) few() []api.Stmt {
	list := make([]api.Stmt, 1+d.roll(3))
	for i := range list {
		list[i] = back(fewNames[d.roll(len(fewNames))])
		if d.roll(4) == 0 {
			list[i] = api.Stmt{Do: api.DoWhile, Y: "x", Z: "y", Body: []api.Stmt{list[i]}}
		}
	}
	return list
}

func TestSameAgainstModel(t *testing.T) {
	d := dice(3)
	same := 0
	for range 30000 {
		a, b := d.few(), d.few()
		if want := page.stmts("", a) == page.stmts("", b); show.Stmts(a, b) != want {
			t.Fatalf("P6.2: Stmts of %q and %q is not %v", page.stmts("", a), page.stmts("", b), want)
		}
		p, q := inMain(a...), inMain(b...)
		want := page.program(p) == page.program(q)
		if show.Same(p, q) != want {
			t.Fatalf("P6.2: Same of %q and %q is not %v", page.program(p), page.program(q), want)
		}
		if want && len(a) != len(b) {
			same++
		}
	}
	if same < 40 {
		t.Errorf("P6.2: only %d unlike programs with the same text", same)
	}
}
