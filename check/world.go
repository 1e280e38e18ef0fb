package check

import (
	"winnower/api"
	"winnower/member"
	"winnower/sub"
)

// Names and types that stand in no class.
const (
	this     = "this" // the variable, which nobody may tell
	number   = "int"
	null     = "null" // a type, but no variable's
	void     = "void" // what a method answers that answers nothing
	brackets = "[]"   // behind the name of what an array has
)

// world is what all of a program's statements have to do with: its types, its members, and its classes, of which some are interfaces.
type world struct {
	*sub.Types
	*member.Members
	classes []api.Class
}

// kind is a type that something has; that of what isn't there, or isn't as it must be, is the zero one, which goes with none.
type kind struct {
	name string
	some bool
}

// kindOf is the kind of a type's name.
func kindOf(name string) kind {
	return kind{name: name, some: true}
}

// below: does one kind stand for another one?
func (w world) below(lower, upper kind) bool {
	return lower.some && upper.some && w.Below(lower.name, upper.name)
}

// either is the number of a class or an interface; false: the kind is of none.
func (w world) either(k kind) (int, bool) {
	i, found := w.Class(k.name)
	if !k.some || !found {
		return 0, false
	}
	return i, true
}

// class is the number of a class that is no interface; false: the kind is of none.
func (w world) class(k kind) (int, bool) {
	i, found := w.either(k)
	if !found || w.classes[i].Face {
		return 0, false
	}
	return i, true
}

// object is the kind of a class's objects.
func (w world) object(name string) kind {
	k := kindOf(name)
	_, k.some = w.class(k)
	return k
}

// array is the kind of the arrays of a class or an interface.
func (w world) array(name string) kind {
	_, found := w.either(kindOf(name))
	return kind{name: name + brackets, some: found}
}

// elem is the kind of what an array has.
func (w world) elem(k kind) kind {
	name, found := w.Elem(k.name)
	return kind{name: name, some: k.some && found}
}

// finder is what finds a member of a class by its name.
type finder func(class int, name string) (api.Member, bool)

// part is the kind of a class's field, or static.
func (w world) part(find finder, k kind, name string) kind {
	i, found := w.class(k)
	if !found {
		return kind{}
	}
	x, found := find(i, name)
	return kind{name: x.Type, some: found}
}
