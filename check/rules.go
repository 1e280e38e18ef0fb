package check

import "winnower/api"

// The rules: each asks all that its row of the chapter's table asks; what is no variable has the zero kind, which goes with none, so that no rule has to look for it first.

func (r *routine) makes(s api.Stmt) bool {
	return r.below(r.object(s.T), r.vars[s.X])
}

func (r *routine) makesArray(s api.Stmt) bool {
	return r.below(r.array(s.T), r.vars[s.X])
}

func (r *routine) nulls(s api.Stmt) bool {
	return r.below(kindOf(null), r.vars[s.X])
}

func (r *routine) copies(s api.Stmt) bool {
	return r.below(r.vars[s.Y], r.vars[s.X])
}

func (r *routine) casts(s api.Stmt) bool {
	y := r.vars[s.Y]
	return r.Ref(s.T) && s.T != null && r.below(kindOf(s.T), r.vars[s.X]) && y.some && y.name != number
}

func (r *routine) loads(s api.Stmt) bool {
	return r.below(r.part(r.Field, r.vars[s.Y], s.F), r.vars[s.X])
}

func (r *routine) stores(s api.Stmt) bool {
	return r.below(r.vars[s.Y], r.part(r.Field, r.vars[s.X], s.F))
}

func (r *routine) gets(s api.Stmt) bool {
	return r.below(r.part(r.Static, kindOf(s.T), s.F), r.vars[s.X])
}

func (r *routine) puts(s api.Stmt) bool {
	return r.below(r.vars[s.Y], r.part(r.Static, kindOf(s.T), s.F))
}

func (r *routine) picks(s api.Stmt) bool {
	return r.ints(s.Z) && r.below(r.elem(r.vars[s.Y]), r.vars[s.X])
}

func (r *routine) sets(s api.Stmt) bool {
	return r.ints(s.Z) && r.below(r.vars[s.Y], r.elem(r.vars[s.X]))
}

func (r *routine) calls(s api.Stmt) bool {
	i, found := r.either(r.vars[s.Y])
	if !found {
		return false
	}
	x, found := r.Method(i, s.F)
	return found && !x.Static && r.hands(s, x)
}

func (r *routine) callsSpecial(s api.Stmt) bool {
	i, found := r.class(kindOf(s.T))
	if !found || !r.below(r.vars[s.Y], kindOf(s.T)) {
		return false
	}
	x, found := r.Method(i, s.F)
	return found && !x.Static && !x.Bare && r.hands(s, x)
}

func (r *routine) callsStatic(s api.Stmt) bool {
	i, found := r.class(kindOf(s.T))
	if !found {
		return false
	}
	x, found := r.Method(i, s.F)
	return found && x.Static && r.hands(s, x)
}

func (r *routine) counts(s api.Stmt) bool {
	return r.ints(s.X)
}

func (r *routine) reckons(s api.Stmt) bool {
	return r.ints(s.X, s.Y, s.Z)
}

func (r *routine) throws(s api.Stmt) bool {
	_, found := r.class(r.vars[s.X])
	return found
}

func (r *routine) catches(s api.Stmt) bool {
	return r.below(r.object(s.T), r.vars[s.X])
}

func (r *routine) compares(s api.Stmt) bool {
	return r.ints(s.Y, s.Z)
}

func (r *routine) answers(s api.Stmt) bool {
	if s.X == "" {
		return r.ret == void
	}
	return r.below(r.vars[s.X], kindOf(r.ret))
}
