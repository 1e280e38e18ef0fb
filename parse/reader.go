package parse

import (
	"winnower/api"
	"winnower/lex"
)

// reader goes along a text's tokens. At the first fault it loses those that are left, so that all that is read behind it ends soon, and counts for nothing.
type reader struct {
	left  []api.Token
	end   api.Pos
	fault api.Fault
	full  bool // the next token is one too many, if it may stand there at all
	deep  int  // how many blocks of statements are open
}

// open is the reader ahead of a text's first token.
func open(s string) *reader {
	tokens, end, fault := lex.Tokens(s)
	return &reader{left: tokens, end: end, fault: fault}
}

// place is the next token's, or the one behind the text.
func (r *reader) place() api.Pos {
	if len(r.left) == 0 {
		return r.end
	}
	return r.left[0].At
}

// refuse is a fault at the next token, unless there was one ahead of it.
func (r *reader) refuse(err api.Errno) {
	if r.fault.Err == api.OK {
		at := r.place()
		r.fault = api.Fault{Err: err, Line: at.Line, Col: at.Col}
	}
	r.left = nil
}

// finish refuses what is left.
func (r *reader) finish() {
	if len(r.left) > 0 {
		r.refuse(api.ErrSyntax)
	}
}

// room asks for room for one more beside so many. Without room the next token is refused only as it is passed: one that may not stand there is ErrSyntax ahead of that.
func (r *reader) room(count, most int) {
	r.full = count >= most
}

// pass goes behind the next token, and answers its text.
func (r *reader) pass() string {
	if r.full {
		r.refuse(api.ErrBig)
		return ""
	}
	text := r.left[0].Text
	r.left = r.left[1:]
	return text
}

// sees: is the next token one of these?
func (r *reader) sees(texts ...string) bool {
	for _, text := range texts {
		if r.row(text) {
			return true
		}
	}
	return false
}

// row: are the next tokens these, one behind the other?
func (r *reader) row(texts ...string) bool {
	for i, text := range texts {
		if i >= len(r.left) || r.left[i].Text != text {
			return false
		}
	}
	return true
}

// take goes behind these tokens: no others may stand here.
func (r *reader) take(texts ...string) {
	for _, text := range texts {
		if !r.skip(text) {
			r.refuse(api.ErrSyntax)
		}
	}
}

// skip goes behind the next token, if it is this one.
func (r *reader) skip(text string) bool {
	if !r.sees(text) {
		return false
	}
	r.pass()
	return true
}

// seesName: is the next token a name?
func (r *reader) seesName() bool {
	return len(r.left) > 0 && lex.Name(r.left[0].Text)
}

// seesNumber: is the next token a number?
func (r *reader) seesNumber() bool {
	return len(r.left) > 0 && r.left[0].Kind == api.TokNum
}

// name takes a name.
func (r *reader) name() string {
	if !r.seesName() {
		r.refuse(api.ErrSyntax)
		return ""
	}
	return r.pass()
}

// begins tells, whenever it is asked, whether one of these tokens is the next one.
func (r *reader) begins(texts ...string) func() bool {
	return func() bool { return r.sees(texts...) }
}

// braced reads what stands in braces.
func (r *reader) braced(inside func()) {
	r.take("{")
	inside()
	r.take("}")
}

// many reads things as long as one more begins.
func many[T any](r *reader, most int, begins func() bool, thing func() T) []T {
	var list []T
	for begins() {
		r.room(len(list), most)
		list = append(list, thing())
	}
	return list
}

// series reads things with commas between, at least one.
func series[T any](r *reader, thing func() T) []T {
	var list []T
	for more := true; more; more = r.skip(",") {
		r.room(len(list), api.MaxMembers)
		list = append(list, thing())
	}
	return list
}
