package parse

import (
	"strconv"

	"winnower/api"
)

// stmts reads the statements of a block.
func (r *reader) stmts() []api.Stmt {
	return many(r, api.MaxMembers, r.beginsStmt, r.stmt)
}

// beginsStmt: is the next token a statement's first one?
func (r *reader) beginsStmt() bool {
	return r.seesName() || r.sees("throw", "try", "if", "while", "return")
}

// stmt reads a statement.
func (r *reader) stmt() api.Stmt {
	s := api.Stmt{At: r.place()}
	switch {
	case r.skip("throw"):
		s.Do, s.X = api.DoThrow, r.name()
		r.take(";")
	case r.skip("return"):
		r.back(&s)
	case r.skip("try"):
		r.try(&s)
	case r.skip("if"):
		r.choice(&s)
	case r.skip("while"):
		r.loop(&s)
	default:
		r.named(&s)
	}
	return s
}

// back reads what stands behind return.
func (r *reader) back(s *api.Stmt) {
	s.Do = api.DoReturn
	if !r.sees(";") {
		s.X = r.name()
	}
	r.take(";")
}

// try reads what stands behind try.
func (r *reader) try(s *api.Stmt) {
	s.Do = api.DoTry
	s.Body = r.nested()
	r.take("catch", "(")
	s.T = r.name()
	s.X = r.name()
	r.take(")")
	s.Other = r.nested()
}

// choice reads what stands behind if.
func (r *reader) choice(s *api.Stmt) {
	s.Do = api.DoIf
	r.less(s)
	s.Body = r.nested()
	if r.skip("else") {
		s.Other = r.nested()
	}
}

// loop reads what stands behind while.
func (r *reader) loop(s *api.Stmt) {
	s.Do = api.DoWhile
	r.less(s)
	s.Body = r.nested()
}

// less reads what must hold for a block.
func (r *reader) less(s *api.Stmt) {
	r.take("(")
	s.Y = r.name()
	r.take("<")
	s.Z = r.name()
	r.take(")")
}

// nested reads a block of a statement.
func (r *reader) nested() []api.Stmt {
	var list []api.Stmt
	r.room(r.deep, api.MaxNest)
	r.braced(func() {
		r.deep++
		list = r.stmts()
		r.deep--
	})
	return list
}

// named reads a statement that begins with a name.
func (r *reader) named(s *api.Stmt) {
	name := r.name()
	switch {
	case r.skip("="):
		s.X = name
		r.value(s)
	case r.skip("["):
		s.Do, s.X, s.Z = api.DoSet, name, r.name()
		r.take("]", "=")
		s.Y = r.name()
	case r.skip("::"):
		s.T, s.F = name, r.name()
		if !r.called(s, api.DoStatic) {
			r.put(s, api.DoPut)
		}
	default:
		r.take(".")
		r.ofVariable(s, name)
		if s.Do == api.DoLoad {
			s.X = name
			r.put(s, api.DoStore)
		}
	}
	r.take(";")
}

// put reads what a field, or a static, is given.
func (r *reader) put(s *api.Stmt, do int) {
	s.Do = do
	r.take("=")
	s.Y = r.name()
}

// value reads what a variable is given.
func (r *reader) value(s *api.Stmt) {
	switch {
	case r.skip("new"):
		r.made(s)
	case r.skip("null"):
		s.Do = api.DoNull
	case r.skip("input"):
		s.Do = api.DoInput
	case r.seesNumber():
		s.Do = api.DoInt
		s.N, _ = strconv.Atoi(r.pass())
	case r.skip("("):
		s.Do, s.T = api.DoCast, r.thingType()
		r.take(")")
		s.Y = r.name()
	default:
		r.worked(s, r.name())
	}
}

// made reads what stands behind new.
func (r *reader) made(s *api.Stmt) {
	s.Do, s.T = api.DoNew, r.name()
	if r.skip("[") {
		r.take("]")
		s.Do = api.DoArray
	}
}

// worked reads what stands behind a name that begins a value.
func (r *reader) worked(s *api.Stmt, name string) {
	switch {
	case r.skip("."):
		r.ofVariable(s, name)
	case r.skip("::"):
		s.T, s.F = name, r.name()
		if !r.called(s, api.DoStatic) {
			s.Do = api.DoGet
		}
	case r.skip("["):
		s.Do, s.Y, s.Z = api.DoElem, name, r.name()
		r.take("]")
	case r.skip("+"):
		s.Do, s.Y, s.Z = api.DoAdd, name, r.name()
	case r.skip("-"):
		s.Do, s.Y, s.Z = api.DoSub, name, r.name()
	default:
		s.Do, s.Y = api.DoCopy, name
	}
}

// ofVariable reads what stands behind a variable and its dot: a call, or else a field, as a load of it.
func (r *reader) ofVariable(s *api.Stmt, name string) {
	s.Y, s.F = name, r.name()
	if r.skip("::") {
		s.T, s.F = s.F, r.name()
		if !r.called(s, api.DoSpecial) {
			r.refuse(api.ErrSyntax)
		}
		return
	}
	if !r.called(s, api.DoCall) {
		s.Do = api.DoLoad
	}
}

// called reads a call's arguments, if it is one.
func (r *reader) called(s *api.Stmt, do int) bool {
	if !r.skip("(") {
		return false
	}
	s.Do = do
	if !r.sees(")") {
		s.Args = series(r, r.name)
	}
	r.take(")")
	return true
}
