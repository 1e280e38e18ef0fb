package lex_test

import (
	"regexp"
	"slices"
	"strings"
	"testing"

	"winnower/api"
	"winnower/lex"
)

// shapes are what may stand at a text's start, in groups: between tokens, a word, a number, a sign.
var shapes = regexp.MustCompile(`^(?s:([ \t\r\n]|#[^\n]*)|([A-Za-z_][A-Za-z0-9_]*)|([0-9]+)|(::|[{}()\[\];,=.<+-]))`)

// placeOf is the place of an octet, told by all that is ahead of it.
func placeOf(ahead string) api.Pos {
	return api.Pos{Line: 1 + strings.Count(ahead, "\n"), Col: len(ahead) - strings.LastIndex(ahead, "\n")}
}

// model tells a text's tokens as plainly as can be, to hold the real ones against.
func model(s string) ([]api.Token, api.Pos, api.Fault) {
	var tokens []api.Token
	for at := 0; at < len(s); {
		pos := placeOf(s[:at])
		m := shapes.FindStringSubmatch(s[at:])
		if m == nil {
			return nil, api.Pos{}, api.Fault{Err: api.ErrSyntax, Line: pos.Line, Col: pos.Col}
		}
		if len(m[2]) > 32 || len(m[3]) > 3 {
			return nil, api.Pos{}, api.Fault{Err: api.ErrBig, Line: pos.Line, Col: pos.Col}
		}
		for kind, text := range map[int]string{api.TokWord: m[2], api.TokNum: m[3], api.TokSign: m[4]} {
			if text != "" {
				tokens = append(tokens, api.Token{Kind: kind, Text: text, At: pos})
			}
		}
		at += len(m[0])
	}
	return tokens, placeOf(s), api.Fault{}
}

// dice answers the same numbers at each run.
type dice uint64

func (d *dice) roll(n int) int {
	*d = *d*6364136223846793005 + 1442695040888963407
	return int(uint64(*d)>>33) % n
}

// text is some of the pieces, one behind the other.
func (d *dice) text(pieces []string) string {
	var b strings.Builder
	for range d.roll(30) {
		b.WriteString(pieces[d.roll(len(pieces))])
	}
	return b.String()
}

// wantModel holds a text's tokens against the model's.
func wantModel(t *testing.T, s string) api.Fault {
	t.Helper()
	got, pos, fault := lex.Tokens(s)
	want, wantPos, wantFault := model(s)
	if !slices.Equal(got, want) || pos != wantPos || fault != wantFault {
		t.Fatalf("P5.1: %q: %v, %v, %v, want %v, %v, %v", s, got, pos, fault, want, wantPos, wantFault)
	}
	return fault
}

func TestAgainstModel(t *testing.T) {
	fine := append(append(strings.Split("aZ_09"+signs+blanks, ""), strings.Fields(keywords)...), "::", "# x ::\n", "#$\n", "main", " 12 ", " ", "\n", strings.Repeat("w", 9))
	wrong := append(slices.Clone(fine), ":", "$", "\xff", "é", "\x00", "\v", "1000", "99", strings.Repeat("w", 31), "#")
	d := dice(1)
	counts := map[api.Errno]int{}
	for range 20000 {
		counts[wantModel(t, d.text(fine)).Err]++
		counts[wantModel(t, d.text(wrong)).Err]++
	}
	for _, err := range []api.Errno{api.OK, api.ErrSyntax, api.ErrBig} {
		if counts[err] < 500 {
			t.Errorf("P5.1: only %d texts with the error %d", counts[err], err)
		}
	}
}

// TestPairsAgainstModel has all texts of two octets, and those of three that begin with a colon.
func TestPairsAgainstModel(t *testing.T) {
	for a := range 256 {
		for b := range 256 {
			wantModel(t, string([]byte{byte(a), byte(b)}))
			wantModel(t, string([]byte{':', byte(a), byte(b)}))
		}
	}
}

// TestNameAgainstTokens: a name is what Tokens takes as one word, all of it, and no keyword.
func TestNameAgainstTokens(t *testing.T) {
	d := dice(2)
	pieces := append(strings.Split("aZ_09 ;", ""), "int", "if", "x", strings.Repeat("w", 15))
	names := 0
	for range 20000 {
		s := d.text(pieces)
		tokens, _, _ := lex.Tokens(s)
		want := len(tokens) == 1 && tokens[0].Kind == api.TokWord && tokens[0].Text == s && !lex.Keyword(s)
		if lex.Name(s) != want {
			t.Fatalf("P5.2: Name(%q) is %v", s, !want)
		}
		if want {
			names++
		}
	}
	if names < 500 {
		t.Errorf("P5.2: only %d names", names)
	}
}
