package parse

import (
	"winnower/api"
)

// program reads classes and interfaces, and main.
func (r *reader) program() api.Program {
	var p api.Program
	p.Classes = many(r, api.MaxClasses, r.begins("class", "interface"), r.either)
	p.Main = r.routine("main")
	return p
}

// either reads a class, or an interface.
func (r *reader) either() api.Class {
	if r.sees("interface") {
		return r.face()
	}
	return r.class()
}

// face reads an interface.
func (r *reader) face() api.Class {
	c := api.Class{Face: true, At: r.place()}
	r.take("interface")
	c.Name = r.name()
	c.Faces = r.faces("extends")
	r.braced(func() {
		c.Methods = many(r, api.MaxMembers, r.begins("method"), r.signature)
	})
	return c
}

// class reads a class.
func (r *reader) class() api.Class {
	c := api.Class{At: r.place()}
	r.take("class")
	c.Name = r.name()
	if r.skip("extends") {
		c.Super = r.name()
	}
	c.Faces = r.faces("implements")
	r.braced(func() { r.members(&c) })
	return c
}

// faces reads the interfaces behind a word; none, if it isn't there.
func (r *reader) faces(word string) []string {
	if !r.skip(word) {
		return nil
	}
	return series(r, r.name)
}

// members reads what a class has.
func (r *reader) members(c *api.Class) {
	for r.sees("field", "static", "method", "init") {
		switch {
		case r.sees("field"):
			r.room(len(c.Fields), api.MaxMembers)
			c.Fields = append(c.Fields, r.declared("field"))
		case r.sees("init"):
			r.setup(c)
		case r.row("static", "method") || r.sees("method"):
			r.room(len(c.Methods), api.MaxMembers)
			c.Methods = append(c.Methods, r.method())
		default:
			r.room(len(c.Statics), api.MaxMembers)
			c.Statics = append(c.Statics, r.declared("static"))
		}
	}
}

// setup reads a class's init, of which there may be one.
func (r *reader) setup(c *api.Class) {
	if c.Init != nil {
		r.refuse(api.ErrSyntax)
		return
	}
	m := r.routine("init")
	c.Init = &m
}

// declared reads a field, a static, or a local, behind the word for it.
func (r *reader) declared(word string) api.Var {
	r.take(word)
	v := r.variable()
	r.take(";")
	return v
}

// local reads a local.
func (r *reader) local() api.Var {
	return r.declared("var")
}

// variable reads a type, and a name.
func (r *reader) variable() api.Var {
	v := api.Var{At: r.place()}
	v.Type = r.anyType()
	v.Name = r.name()
	return v
}

// routine reads an init, or main.
func (r *reader) routine(word string) api.Method {
	m := api.Method{Ret: "void", Name: word, Static: true, At: r.place()}
	r.take(word)
	r.block(&m)
	return m
}

// signature reads a method of an interface.
func (r *reader) signature() api.Method {
	m := api.Method{Bare: true, At: r.place()}
	r.head(&m)
	r.take(";")
	return m
}

// method reads a method of a class.
func (r *reader) method() api.Method {
	m := api.Method{At: r.place()}
	m.Static = r.skip("static")
	r.head(&m)
	r.block(&m)
	return m
}

// head reads what a method answers, its name, and its parameters.
func (r *reader) head(m *api.Method) {
	r.take("method")
	m.Ret = r.answer()
	m.Name = r.name()
	r.take("(")
	if !r.sees(")") {
		m.Params = series(r, r.variable)
	}
	r.take(")")
}

// block reads a method's locals and statements.
func (r *reader) block(m *api.Method) {
	r.braced(func() {
		m.Locals = many(r, api.MaxMembers, r.begins("var"), r.local)
		m.Body = r.stmts()
	})
}

// answer reads void, or a type.
func (r *reader) answer() string {
	if r.skip("void") {
		return "void"
	}
	return r.anyType()
}

// anyType reads int, or another type.
func (r *reader) anyType() string {
	if r.skip("int") {
		return "int"
	}
	return r.thingType()
}

// thingType reads a type of things: a name, or an array's.
func (r *reader) thingType() string {
	name := r.name()
	if r.skip("[") {
		r.take("]")
		return name + "[]"
	}
	return name
}
