package show

import (
	"strconv"
	"strings"

	"winnower/api"
)

// code is a sheet that statements are put down on.
type code struct {
	sheet
}

// stmts puts down statements.
func (c *code) stmts(list ...api.Stmt) {
	for _, s := range list {
		c.stmt(s)
	}
}

// stmt puts down a statement; nothing of one that does nothing known.
func (c *code) stmt(s api.Stmt) {
	switch s.Do {
	case api.DoTry:
		c.nest(s.Body, "try {")
		c.nest(s.Other, "} catch (", s.T, " ", s.X, ") {")
		c.shut()
	case api.DoIf:
		c.nest(s.Body, "if (", s.Y, " < ", s.Z, ") {")
		if len(s.Other) > 0 {
			c.nest(s.Other, "} else {")
		}
		c.shut()
	case api.DoWhile:
		c.nest(s.Body, "while (", s.Y, " < ", s.Z, ") {")
		c.shut()
	default:
		c.plain(s)
	}
}

// nest puts down a row that opens a brace, and statements in it.
func (c *code) nest(body []api.Stmt, head ...string) {
	c.open(func() { c.stmts(body...) }, head...)
}

// plain puts down a statement that has no blocks.
func (c *code) plain(s api.Stmt) {
	switch s.Do {
	case api.DoNew:
		c.put(s.X, " = new ", s.T, ";")
	case api.DoArray:
		c.put(s.X, " = new ", s.T, "[];")
	case api.DoNull:
		c.put(s.X, " = null;")
	case api.DoCopy:
		c.put(s.X, " = ", s.Y, ";")
	case api.DoCast:
		c.put(s.X, " = (", s.T, ") ", s.Y, ";")
	case api.DoLoad:
		c.put(s.X, " = ", s.Y, ".", s.F, ";")
	case api.DoStore:
		c.put(s.X, ".", s.F, " = ", s.Y, ";")
	case api.DoGet:
		c.put(s.X, " = ", s.T, "::", s.F, ";")
	case api.DoPut:
		c.put(s.T, "::", s.F, " = ", s.Y, ";")
	case api.DoElem:
		c.put(s.X, " = ", s.Y, "[", s.Z, "];")
	case api.DoSet:
		c.put(s.X, "[", s.Z, "] = ", s.Y, ";")
	case api.DoCall:
		c.call(s, s.Y, ".", s.F)
	case api.DoSpecial:
		c.call(s, s.Y, ".", s.T, "::", s.F)
	case api.DoStatic:
		c.call(s, s.T, "::", s.F)
	case api.DoInt:
		c.put(s.X, " = ", strconv.Itoa(s.N), ";")
	case api.DoAdd:
		c.put(s.X, " = ", s.Y, " + ", s.Z, ";")
	case api.DoSub:
		c.put(s.X, " = ", s.Y, " - ", s.Z, ";")
	case api.DoInput:
		c.put(s.X, " = input;")
	case api.DoThrow:
		c.put("throw ", s.X, ";")
	case api.DoReturn:
		c.answer(s.X)
	}
}

// call puts down a call of what callee tells.
func (c *code) call(s api.Stmt, callee ...string) {
	target := ""
	if s.X != "" {
		target = s.X + " = "
	}
	c.put(target, strings.Join(callee, ""), "(", strings.Join(s.Args, ", "), ");")
}

// answer puts down a return of a variable, or of none.
func (c *code) answer(name string) {
	if name == "" {
		c.put("return;")
	} else {
		c.put("return ", name, ";")
	}
}
