package member

import (
	"cmp"

	"winnower/api"
)

// spot is where a class isn't right: in one of its parts, a member's place there; or, behind all parts, the class by itself.
type spot struct {
	class, part, at int
}

// compare tells which of two spots is ahead.
func (s spot) compare(o spot) int {
	return cmp.Or(cmp.Compare(s.class, o.class), cmp.Compare(s.part, o.part), cmp.Compare(s.at, o.at))
}

// place is where the spot is in the text, of its class.
func (s spot) place(c api.Class) api.Pos {
	switch s.part {
	case fields:
		return c.Fields[s.at].At
	case statics:
		return c.Statics[s.at].At
	case methods:
		return c.Methods[s.at].At
	}
	return c.At
}

// spots keep the first one of all that are put in, in whatever order they come.
type spots struct {
	first spot
	some  bool
}

// put takes one more in.
func (s *spots) put(class, part, at int) {
	one := spot{class: class, part: part, at: at}
	if !s.some || one.compare(s.first) < 0 {
		s.first = one
	}
	s.some = true
}
