package lex

import (
	"strings"

	"winnower/api"
)

// place goes along a text.
type place struct {
	pos api.Pos
}

// pass goes behind octets.
func (p *place) pass(text string) {
	for i := range len(text) {
		if text[i] == '\n' {
			p.pos = api.Pos{Line: p.pos.Line + 1, Col: 1}
		} else {
			p.pos.Col++
		}
	}
}

// fault is an error here.
func (p *place) fault(err api.Errno) api.Fault {
	return api.Fault{Err: err, Line: p.pos.Line, Col: p.pos.Col}
}

// cursor is a place in a text, and what of the text stands behind it.
type cursor struct {
	place
	left string
}

// start is the cursor ahead of a text.
func start(text string) cursor {
	return cursor{place: place{api.Pos{Line: 1, Col: 1}}, left: text}
}

// take goes behind so many octets, and answers them.
func (c *cursor) take(size int) string {
	taken := c.left[:size]
	c.pass(taken)
	c.left = c.left[size:]
	return taken
}

// reader takes a text's tokens, one by one.
type reader struct {
	cursor
	tokens []api.Token
}

// readAll takes all tokens; at an error it stands ahead of what is wrong.
func (r *reader) readAll() api.Errno {
	between, kinds := gap(), shapes()
	for r.skip(between); r.left != ""; r.skip(between) {
		if err := r.read(kinds); err != api.OK {
			return err
		}
	}
	return api.OK
}

// skip goes to the next token, or to the text's end.
func (r *reader) skip(between measure) {
	for size := between(r.left); size > 0; size = between(r.left) {
		r.take(size)
	}
}

// read takes the token that stands here. Its text is copied: a piece of what was handed in would keep all of it.
func (r *reader) read(kinds []shape) api.Errno {
	for _, k := range kinds {
		size := k.size(r.left)
		if size > k.most {
			return api.ErrBig
		}
		if size > 0 {
			at := r.pos
			r.tokens = append(r.tokens, api.Token{Kind: k.kind, Text: strings.Clone(r.take(size)), At: at})
			return api.OK
		}
	}
	return api.ErrSyntax
}
