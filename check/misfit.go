package check

import "winnower/api"

// misfit is the first place in a program that doesn't fit; false: all fits. Main is looked at by its Locals alone: it has no other variables, whatever a program that is made by hand gives it.
func (w world) misfit(p api.Program) (api.Pos, bool) {
	for i, c := range p.Classes {
		for _, x := range bodies(c) {
			if at, found := w.misfitOf(x, Scope(p, i, x)...); found {
				return at, true
			}
		}
	}
	return w.misfitOf(p.Main, p.Main.Locals...)
}

// bodies are what a class has statements in.
func bodies(c api.Class) []api.Method {
	var list []api.Method
	if c.Init != nil {
		list = append(list, *c.Init)
	}
	for _, x := range c.Methods {
		if !x.Bare {
			list = append(list, x)
		}
	}
	return list
}

// misfitOf is the first place in a method that doesn't fit, by its variables; false: all fits.
func (w world) misfitOf(x api.Method, vars ...api.Var) (api.Pos, bool) {
	if at, found := w.misdeclared(x.Params, x.Locals); found {
		return at, true
	}
	return routineOf(w, x.Ret, vars...).misfit(x.Body...)
}

// misdeclared is the first variable of lists that has no type of its own, or a name that is taken; false: there is none.
func (w world) misdeclared(lists ...[]api.Var) (api.Pos, bool) {
	ahead := map[string]struct{}{this: {}}
	for _, list := range lists {
		for _, v := range list {
			_, taken := ahead[v.Name]
			if taken || v.Type == null || !w.Is(v.Type) {
				return v.At, true
			}
			ahead[v.Name] = struct{}{}
		}
	}
	return api.Pos{}, false
}

// misfit is the first of statements that doesn't fit, each ahead of those in its blocks; false: all fit.
func (r *routine) misfit(list ...api.Stmt) (api.Pos, bool) {
	for _, s := range list {
		if !r.fits(s) {
			return s.At, true
		}
		for _, block := range blocks(s) {
			if at, found := r.misfit(block...); found {
				return at, true
			}
		}
	}
	return api.Pos{}, false
}

// blocks are a statement's that its form has.
func blocks(s api.Stmt) [][]api.Stmt {
	switch s.Do {
	case api.DoTry, api.DoIf:
		return [][]api.Stmt{s.Body, s.Other}
	case api.DoWhile:
		return [][]api.Stmt{s.Body}
	}
	return nil
}
