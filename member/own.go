package member

import (
	"strings"

	"winnower/api"
)

// The parts of what a class tells, in the order in which they must be right.
const (
	fields = iota
	statics
	methods
	parts // how many there are
)

// own is what a class, or an interface, tells itself.
type own [parts]told

// told are members in their order, and where the first one of each name stands.
type told struct {
	members []api.Member
	firsts  map[string]int
}

// first is the first one of a name; nil: there is none.
func (t *told) first(name string) *api.Member {
	at, found := t.firsts[name]
	if !found {
		return nil
	}
	return &t.members[at]
}

// ownsOf are what all classes tell.
func ownsOf(classes []api.Class) []own {
	owns := make([]own, len(classes))
	for i, c := range classes {
		owns[i] = ownOf(i, c)
	}
	return owns
}

// ownOf is what a class tells. Texts are copied: a piece of a program's text would keep all of it.
func ownOf(class int, c api.Class) own {
	field := func(v api.Var) api.Member {
		return api.Member{Class: class, Name: strings.Clone(v.Name), Type: strings.Clone(v.Type)}
	}
	static := func(v api.Var) api.Member {
		x := field(v)
		x.Static = true
		return x
	}
	method := func(x api.Method) api.Member {
		answered := field(api.Var{Name: x.Name, Type: x.Ret})
		answered.Params = typesOf(x.Params)
		answered.Static, answered.Bare = x.Static, x.Bare
		return answered
	}
	return own{fields: toldOf(c.Fields, field), statics: toldOf(c.Statics, static), methods: toldOf(c.Methods, method)}
}

// toldOf are the members of a list.
func toldOf[T any](list []T, member func(T) api.Member) told {
	t := told{members: make([]api.Member, 0, len(list)), firsts: make(map[string]int, len(list))}
	for at, one := range list {
		x := member(one)
		if _, taken := t.firsts[x.Name]; !taken {
			t.firsts[x.Name] = at
		}
		t.members = append(t.members, x)
	}
	return t
}

// typesOf are those of parameters.
func typesOf(params []api.Var) []string {
	types := make([]string, 0, len(params))
	for _, v := range params {
		types = append(types, strings.Clone(v.Type))
	}
	return types
}
