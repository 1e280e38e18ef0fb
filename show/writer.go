package show

import (
	"strings"

	"winnower/api"
)

// writer puts down classes and what they have, beside statements.
type writer struct {
	code
}

// classes puts down classes and interfaces.
func (w *writer) classes(list ...api.Class) {
	for _, c := range list {
		if c.Face {
			w.face(c)
		} else {
			w.class(c)
		}
	}
}

// class puts down a class.
func (w *writer) class(c api.Class) {
	super := ""
	if c.Super != "" {
		super = above("extends", c.Super)
	}
	w.open(func() {
		w.vars("field", c.Fields...)
		w.vars("static", c.Statics...)
		if c.Init != nil {
			w.block(*c.Init, "init {")
		}
		w.methods(c.Methods...)
	}, "class ", c.Name, super, above("implements", c.Faces...), " {")
	w.shut()
}

// face puts down an interface.
func (w *writer) face(c api.Class) {
	w.open(func() { w.methods(c.Methods...) }, "interface ", c.Name, above("extends", c.Faces...), " {")
	w.shut()
}

// methods puts down methods.
func (w *writer) methods(list ...api.Method) {
	for _, m := range list {
		head := "method " + m.Ret + " " + m.Name + "(" + params(m.Params) + ")"
		switch {
		case m.Bare:
			w.put(head, ";")
		case m.Static:
			w.block(m, "static ", head, " {")
		default:
			w.block(m, head, " {")
		}
	}
}

// block puts down a method's head, its locals and statements.
func (w *writer) block(m api.Method, head ...string) {
	w.open(func() {
		w.vars("var", m.Locals...)
		w.stmts(m.Body...)
	}, head...)
	w.shut()
}

// vars puts down variables of a kind.
func (w *writer) vars(kind string, list ...api.Var) {
	for _, v := range list {
		w.put(kind, " ", v.Type, " ", v.Name, ";")
	}
}

// params are a method's, as they stand in its head.
func params(list []api.Var) string {
	texts := make([]string, 0, len(list))
	for _, v := range list {
		texts = append(texts, v.Type+" "+v.Name)
	}
	return strings.Join(texts, ", ")
}

// above tells what stands above a class; nothing, if there is none.
func above(how string, names ...string) string {
	if len(names) == 0 {
		return ""
	}
	return " " + how + " " + strings.Join(names, ", ")
}
