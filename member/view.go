package member

import (
	"slices"

	"winnower/api"
)

// view is what methods of one name are to a class: the one that it has (nil: none), and all at the class and above it, and those of them that are Bare.
type view struct {
	method    *api.Member
	all, bare lot
}

// add puts a method in that the class tells itself.
func (v *view) add(x *api.Member) {
	v.method = x
	v.all = v.all.and(lotOf(x))
	if x.Bare {
		v.bare = v.bare.and(lotOf(x))
	}
}

// clashes: may a method not stand below all those?
func (v *view) clashes(x *api.Member) bool {
	if v.all.one == nil {
		return false
	}
	both := v.all.and(lotOf(x))
	return both.unlike || both.static
}

// lacks: is one of those Bare, and the class's own no body for it?
func (v *view) lacks() bool {
	switch {
	case v.bare.one == nil:
		return false
	case v.method == nil:
		return true
	}
	return v.method.Bare || v.method.Static || v.bare.and(lotOf(v.method)).unlike
}

// lot is what counts of some methods of one name: one of them (nil: there is none), whether two of them aren't alike, and whether one is Static.
type lot struct {
	one            *api.Member
	unlike, static bool
}

// lotOf is a method alone.
func lotOf(x *api.Member) lot {
	return lot{one: x, static: x.Static}
}

// and is two lots as one.
func (l lot) and(o lot) lot {
	switch {
	case l.one == nil:
		return o
	case o.one == nil:
		return l
	}
	return lot{one: l.one, unlike: l.unlike || o.unlike || !alike(l.one, o.one), static: l.static || o.static}
}

// alike: have two methods the same Ret and Params' types?
func alike(x, y *api.Member) bool {
	return x.Type == y.Type && slices.Equal(x.Params, y.Params)
}
