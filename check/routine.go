package check

import "winnower/api"

// routine is a method whose statements are looked at: its variables' kinds by their names, what it answers, and for each Do what must be of a statement.
type routine struct {
	world
	vars  map[string]kind
	ret   string
	rules []func(api.Stmt) bool
}

// routineOf is a method of variables that have names of their own.
func routineOf(w world, ret string, vars ...api.Var) *routine {
	r := &routine{world: w, vars: make(map[string]kind, len(vars)), ret: ret}
	for _, v := range vars {
		r.vars[v.Name] = kindOf(v.Type)
	}
	r.rules = []func(api.Stmt) bool{
		api.DoNew:     r.makes,
		api.DoArray:   r.makesArray,
		api.DoNull:    r.nulls,
		api.DoCopy:    r.copies,
		api.DoCast:    r.casts,
		api.DoLoad:    r.loads,
		api.DoStore:   r.stores,
		api.DoGet:     r.gets,
		api.DoPut:     r.puts,
		api.DoElem:    r.picks,
		api.DoSet:     r.sets,
		api.DoCall:    r.calls,
		api.DoSpecial: r.callsSpecial,
		api.DoStatic:  r.callsStatic,
		api.DoInt:     r.counts,
		api.DoAdd:     r.reckons,
		api.DoSub:     r.reckons,
		api.DoInput:   r.counts,
		api.DoThrow:   r.throws,
		api.DoTry:     r.catches,
		api.DoIf:      r.compares,
		api.DoWhile:   r.compares,
		api.DoReturn:  r.answers,
	}
	return r
}

// fits: does a statement, whatever stands in its blocks?
func (r *routine) fits(s api.Stmt) bool {
	return s.Do >= 0 && s.Do < len(r.rules) && r.rules[s.Do](s)
}

// ints: are all these variables, and ints?
func (r *routine) ints(names ...string) bool {
	for _, name := range names {
		if r.vars[name] != kindOf(number) {
			return false
		}
	}
	return true
}

// hands: does a call hand a method what it takes, and take what it answers?
func (r *routine) hands(s api.Stmt, x api.Member) bool {
	if len(s.Args) != len(x.Params) {
		return false
	}
	for i, param := range x.Params {
		if !r.below(r.vars[s.Args[i]], kindOf(param)) {
			return false
		}
	}
	return s.X == "" || x.Type != void && r.below(kindOf(x.Type), r.vars[s.X])
}
