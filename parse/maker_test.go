package parse_test

import (
	"reflect"
	"strconv"
	"strings"
	"testing"

	"winnower/api"
	"winnower/lex"
	"winnower/parse"
	"winnower/show"
)

// maker makes a program, and its tokens beside it. A place in it is the number of a token, as its Line.
type maker struct {
	*dice
	tokens  []string
	deep    int
	crowded bool // now and then a list with about as many as may be, or more
}

func (m *maker) put(tokens ...string) {
	m.tokens = append(m.tokens, tokens...)
}

func (m *maker) at() api.Pos {
	return api.Pos{Line: len(m.tokens)}
}

// count is how many of a list there are.
func (m *maker) count(few int) int {
	if m.crowded && m.roll(40) == 0 {
		return 38 + m.roll(5)
	}
	return m.roll(few + 1)
}

func (m *maker) name() string {
	name := []string{"x", "y", "T", "this", "_1", "A"}[m.roll(6)]
	m.put(name)
	return name
}

// series are names with commas between.
func (m *maker) series(count int, item func()) {
	for i := range count {
		if i > 0 {
			m.put(",")
		}
		item()
	}
}

func (m *maker) thingType() string {
	name := m.name()
	if m.roll(3) == 0 {
		m.put("[", "]")
		return name + "[]"
	}
	return name
}

func (m *maker) anyType() string {
	if m.roll(3) == 0 {
		m.put("int")
		return "int"
	}
	return m.thingType()
}

func (m *maker) variable() api.Var {
	v := api.Var{At: m.at()}
	v.Type = m.anyType()
	v.Name = m.name()
	return v
}

func (m *maker) declared(word string) api.Var {
	m.put(word)
	v := m.variable()
	m.put(";")
	return v
}

func (m *maker) program() api.Program {
	var p api.Program
	classes := m.roll(4)
	if m.crowded && m.roll(20) == 0 {
		classes = 58 + m.roll(5)
	}
	for range classes {
		p.Classes = append(p.Classes, m.class())
	}
	p.Main = m.routine("main")
	return p
}

func (m *maker) class() api.Class {
	c := api.Class{At: m.at(), Face: m.roll(3) == 0}
	word := "implements"
	if c.Face {
		m.put("interface")
		c.Name, word = m.name(), "extends"
	} else {
		m.put("class")
		c.Name = m.name()
		if m.roll(2) == 0 {
			m.put("extends")
			c.Super = m.name()
		}
	}
	if count := m.count(2); count > 0 {
		m.put(word)
		m.series(count, func() { c.Faces = append(c.Faces, m.name()) })
	}
	m.put("{")
	if c.Face {
		for range m.count(2) {
			c.Methods = append(c.Methods, m.method(false, true))
		}
	} else {
		m.members(&c)
	}
	m.put("}")
	return c
}

// members makes those of a class, in any order.
func (m *maker) members(c *api.Class) {
	left := [4]int{m.count(2), m.count(2), m.roll(2), m.count(2)}
	for left != [4]int{} {
		kind := m.roll(4)
		if left[kind] == 0 {
			continue
		}
		left[kind]--
		switch kind {
		case 0:
			c.Fields = append(c.Fields, m.declared("field"))
		case 1:
			c.Statics = append(c.Statics, m.declared("static"))
		case 2:
			init := m.routine("init")
			c.Init = &init
		case 3:
			c.Methods = append(c.Methods, m.method(m.roll(2) == 0, false))
		}
	}
}

func (m *maker) routine(word string) api.Method {
	x := api.Method{Ret: "void", Name: word, Static: true, At: m.at()}
	m.put(word)
	m.block(&x)
	return x
}

func (m *maker) method(static, bare bool) api.Method {
	x := api.Method{Static: static, Bare: bare, At: m.at()}
	if static {
		m.put("static")
	}
	m.put("method")
	if m.roll(3) == 0 {
		x.Ret = "void"
		m.put("void")
	} else {
		x.Ret = m.anyType()
	}
	x.Name = m.name()
	m.put("(")
	m.series(m.count(2), func() { x.Params = append(x.Params, m.variable()) })
	m.put(")")
	if bare {
		m.put(";")
	} else {
		m.block(&x)
	}
	return x
}

func (m *maker) block(x *api.Method) {
	m.put("{")
	for range m.count(2) {
		x.Locals = append(x.Locals, m.declared("var"))
	}
	x.Body = m.stmts(3)
	m.put("}")
}

func (m *maker) stmts(few int) []api.Stmt {
	var list []api.Stmt
	for range m.count(few) {
		list = append(list, m.stmt())
	}
	return list
}

func (m *maker) nest() []api.Stmt {
	few := 2
	if m.deep > 2 {
		few = 1
	}
	m.deep++
	m.put("{")
	var list []api.Stmt
	if m.crowded && m.deep < 10 && m.roll(3) > 0 {
		list = append(list, m.nested(api.DoTry+m.roll(3)))
	}
	if m.deep < 8 {
		list = append(list, m.stmts(few)...)
	}
	m.put("}")
	m.deep--
	return list
}

func (m *maker) stmt() api.Stmt {
	do := m.roll(api.DoReturn + 1)
	if m.deep >= 7 {
		do = m.roll(api.DoTry)
	}
	if do >= api.DoTry && do <= api.DoWhile {
		return m.nested(do)
	}
	return m.plain(do)
}

// nested makes a statement with blocks.
func (m *maker) nested(do int) api.Stmt {
	s := api.Stmt{Do: do, At: m.at()}
	if do == api.DoTry {
		m.put("try")
		s.Body = m.nest()
		m.put("catch", "(")
		s.T = m.name()
		s.X = m.name()
		m.put(")")
		s.Other = m.nest()
		return s
	}
	m.put(map[int]string{api.DoIf: "if", api.DoWhile: "while"}[do], "(")
	s.Y = m.name()
	m.put("<")
	s.Z = m.name()
	m.put(")")
	s.Body = m.nest()
	if do == api.DoIf && m.roll(2) == 0 {
		m.put("else")
		s.Other = m.nest()
	}
	return s
}

// plainForms are those of layer 6's table: letters stand for fields, t for a type of a cast, A for arguments.
var plainForms = [...]string{
	"X = new T ;", "X = new T [ ] ;", "X = null ;", "X = Y ;", "X = ( t ) Y ;", "X = Y . F ;", "X . F = Y ;", "X = T :: F ;", "T :: F = Y ;", "X = Y [ Z ] ;", "X [ Z ] = Y ;",
	"Y . F ( A ) ;", "Y . T :: F ( A ) ;", "T :: F ( A ) ;", "X = N ;", "X = Y + Z ;", "X = Y - Z ;", "X = input ;", "throw X ;", "", "", "", "return X ;",
}

// plain makes a statement without blocks.
func (m *maker) plain(do int) api.Stmt {
	s := api.Stmt{Do: do, At: m.at()}
	form := plainForms[do]
	if do >= api.DoCall && do <= api.DoStatic && m.roll(2) == 0 {
		form = "X = " + form
	}
	if do == api.DoReturn && m.roll(2) == 0 {
		form = "return ;"
	}
	fields := map[string]*string{"X": &s.X, "Y": &s.Y, "Z": &s.Z, "T": &s.T, "F": &s.F}
	for _, part := range strings.Fields(form) {
		switch {
		case fields[part] != nil:
			*fields[part] = m.name()
		case part == "t":
			s.T = m.thingType()
		case part == "A":
			m.series(m.count(2), func() { s.Args = append(s.Args, m.name()) })
		case part == "N":
			s.N = m.roll(1000)
			m.put(strconv.Itoa(s.N))
		default:
			m.put(part)
		}
	}
	return s
}

// layout lays out tokens with gaps of all kinds, and tells their places.
func (d *dice) layout(tokens []string) (string, []api.Pos) {
	gaps := []string{"", "", "", " ", "\n", "\t ", " # { x\n", "\r\n  ", "#\n"}
	var b strings.Builder
	var places []api.Pos
	for i, token := range tokens {
		gap := gaps[d.roll(len(gaps))]
		if gap == "" && i > 0 && worded(tokens[i-1]) && worded(token) {
			gap = " "
		}
		b.WriteString(gap)
		places = append(places, place(b.String(), b.Len()))
		b.WriteString(token)
	}
	return b.String(), places
}

// worded: is it a word, or a number?
func worded(token string) bool {
	return lex.Name(token) || lex.Keyword(token) || fits("NUMBER", token)
}

// mover puts other places in the place of those of a program, and takes empty lists as nil ones.
type mover func(api.Pos) api.Pos

func (move mover) program(p api.Program) api.Program {
	var classes []api.Class
	for _, c := range p.Classes {
		c.At = move(c.At)
		c.Faces = append([]string(nil), c.Faces...)
		c.Fields, c.Statics = move.vars(c.Fields), move.vars(c.Statics)
		var methods []api.Method
		for _, x := range c.Methods {
			methods = append(methods, move.method(x))
		}
		c.Methods = methods
		if c.Init != nil {
			init := move.method(*c.Init)
			c.Init = &init
		}
		classes = append(classes, c)
	}
	return api.Program{Classes: classes, Main: move.method(p.Main)}
}

func (move mover) method(x api.Method) api.Method {
	x.At = move(x.At)
	x.Params, x.Locals, x.Body = move.vars(x.Params), move.vars(x.Locals), move.stmts(x.Body)
	return x
}

func (move mover) vars(list []api.Var) []api.Var {
	var moved []api.Var
	for _, v := range list {
		v.At = move(v.At)
		moved = append(moved, v)
	}
	return moved
}

func (move mover) stmts(list []api.Stmt) []api.Stmt {
	var moved []api.Stmt
	for _, s := range list {
		s.At = move(s.At)
		s.Args = append([]string(nil), s.Args...)
		s.Body, s.Other = move.stmts(s.Body), move.stmts(s.Other)
		moved = append(moved, s)
	}
	return moved
}

// nilled is a program with its places.
func nilled(p api.Program) api.Program {
	return mover(func(at api.Pos) api.Pos { return at }).program(p)
}

// placeless is a program without its places.
func placeless(p api.Program) api.Program {
	return mover(func(api.Pos) api.Pos { return api.Pos{} }).program(p)
}

// placelessStmt is a statement without its places.
func placelessStmt(s api.Stmt) api.Stmt {
	return mover(func(api.Pos) api.Pos { return api.Pos{} }).stmts([]api.Stmt{s})[0]
}

func TestMadePrograms(t *testing.T) {
	d := dice(11)
	for range 3000 {
		m := maker{dice: &d}
		made := m.program()
		text, places := d.layout(m.tokens)
		if len(text) > api.MaxText {
			continue
		}
		want := mover(func(at api.Pos) api.Pos { return places[at.Line] }).program(made)
		got, fault := parse.Parse(text)
		if fault != (api.Fault{}) || !reflect.DeepEqual(nilled(got), want) {
			t.Fatalf("P7.1: %s\n%v\n%v\nwant\n%v", text, fault, got, want)
		}
	}
}

func TestMadeStmts(t *testing.T) {
	d := dice(12)
	for range 10000 {
		m := maker{dice: &d}
		made := m.stmt()
		text, places := d.layout(m.tokens)
		want := mover(func(at api.Pos) api.Pos { return places[at.Line] }).stmts([]api.Stmt{made})
		got, fault := parse.Stmt(text)
		if fault != (api.Fault{}) || !reflect.DeepEqual(mover(func(at api.Pos) api.Pos { return at }).stmts([]api.Stmt{got}), want) {
			t.Fatalf("P7.2: %s\n%v\n%v\nwant\n%v", text, fault, got, want)
		}
	}
}

// TestShown: what layer 6 shows is read as what it was.
func TestShown(t *testing.T) {
	d := dice(13)
	for range 3000 {
		m := maker{dice: &d}
		made := m.program()
		text := show.Program(made)
		if len(text) > api.MaxText {
			continue
		}
		got, fault := parse.Parse(text)
		if fault != (api.Fault{}) || !reflect.DeepEqual(placeless(got), placeless(made)) {
			t.Fatalf("P7.3: %s\n%v\n%v", text, fault, got)
		}
		if !show.Same(got, made) || show.Program(got) != text {
			t.Fatalf("P7.3: %s\nis shown as\n%s", text, show.Program(got))
		}
		for _, s := range made.Main.Body {
			if got, fault := parse.Stmt(show.Line(s)); fault != (api.Fault{}) || !reflect.DeepEqual(placelessStmt(got), placelessStmt(s)) {
				t.Fatalf("P7.3: %s\n%v\n%v", show.Line(s), fault, got)
			}
		}
	}
}
