package lex_test

import (
	"slices"
	"strings"
	"testing"
	"unsafe"

	"winnower/api"
	"winnower/lex"
)

const (
	letters  = "ABCDEFGHIJKLMNOPQRSTUVWXYZabcdefghijklmnopqrstuvwxyz_"
	digits   = "0123456789"
	signs    = "{}()[];,=.<+-"
	blanks   = " \t\r\n"
	keywords = "class extends implements interface field static method init main var new null input throw try catch if else while return int void"
)

// short keeps what a failing test tells readable.
func short(s string) string {
	return s[:min(len(s), 80)]
}

// token is one of the first line.
func token(kind int, text string, col int) api.Token {
	return api.Token{Kind: kind, Text: text, At: api.Pos{Line: 1, Col: col}}
}

// wantTokens asks for a text's tokens, which must be these, with this place behind them.
func wantTokens(t *testing.T, what, s string, end api.Pos, want ...api.Token) {
	t.Helper()
	got, pos, fault := lex.Tokens(s)
	if fault != (api.Fault{}) {
		t.Errorf("%s: %q: fault %v, want none", what, short(s), fault)
	}
	if pos != end {
		t.Errorf("%s: %q: ends at %v, want %v", what, short(s), pos, end)
	}
	if !slices.Equal(got, want) {
		t.Errorf("%s: %q: %v, want %v", what, short(s), got, want)
	}
}

// wantFault asks for the tokens of a text that has a fault.
func wantFault(t *testing.T, what, s string, err api.Errno, line, col int) {
	t.Helper()
	got, pos, fault := lex.Tokens(s)
	if want := (api.Fault{Err: err, Line: line, Col: col}); fault != want {
		t.Errorf("%s: %q: fault %v, want %v", what, short(s), fault, want)
	}
	if len(got) != 0 || pos != (api.Pos{}) {
		t.Errorf("%s: %q: %d tokens, the place %v beside a fault", what, short(s), len(got), pos)
	}
}

// wantTexts asks for a text's tokens by their texts, which stand here with blanks between.
func wantTexts(t *testing.T, what, s, want string) {
	t.Helper()
	got, _, fault := lex.Tokens(s)
	var texts []string
	for _, x := range got {
		texts = append(texts, x.Text)
	}
	if strings.Join(texts, " ") != want || fault != (api.Fault{}) {
		t.Errorf("%s: %q: %q, %v, want %q", what, short(s), texts, fault, want)
	}
}

func TestExample(t *testing.T) {
	wantTokens(t, "P5.1: the example", "x = y.f;", api.Pos{Line: 1, Col: 9},
		token(api.TokWord, "x", 1), token(api.TokSign, "=", 3), token(api.TokWord, "y", 5),
		token(api.TokSign, ".", 6), token(api.TokWord, "f", 7), token(api.TokSign, ";", 8))
}

func TestNoTokens(t *testing.T) {
	ends := map[string]api.Pos{
		"":                  {Line: 1, Col: 1},
		" ":                 {Line: 1, Col: 2},
		"\t":                {Line: 1, Col: 2},
		"\r":                {Line: 1, Col: 2},
		"\n":                {Line: 2, Col: 1},
		"\r\n":              {Line: 2, Col: 1},
		"\n\r":              {Line: 2, Col: 2},
		" \t\r \t":          {Line: 1, Col: 6},
		"\n\n  \n ":         {Line: 4, Col: 2},
		"#":                 {Line: 1, Col: 2},
		"#\n":               {Line: 2, Col: 1},
		"# x = $ : 12345":   {Line: 1, Col: 16},
		"##\n#\r# \n  #\t":  {Line: 3, Col: 5},
		"#\x00\xff\xc3\xa9": {Line: 1, Col: 6},
	}
	for s, end := range ends {
		wantTokens(t, "P5.1: no tokens", s, end)
	}
}

func TestPlaces(t *testing.T) {
	wantTokens(t, "P5.1: places", "\n\ta::\r9\n\n#é\n }", api.Pos{Line: 5, Col: 3},
		api.Token{Kind: api.TokWord, Text: "a", At: api.Pos{Line: 2, Col: 2}},
		api.Token{Kind: api.TokSign, Text: "::", At: api.Pos{Line: 2, Col: 3}},
		api.Token{Kind: api.TokNum, Text: "9", At: api.Pos{Line: 2, Col: 6}},
		api.Token{Kind: api.TokSign, Text: "}", At: api.Pos{Line: 5, Col: 2}})
	wantTokens(t, "P5.1: a remark ends ahead of its line feed", "a#b\nc", api.Pos{Line: 2, Col: 2},
		token(api.TokWord, "a", 1),
		api.Token{Kind: api.TokWord, Text: "c", At: api.Pos{Line: 2, Col: 1}})
	wantFault(t, "P5.1: an octet of a remark is a column", "# é\n#é\r $\n \t$", api.ErrSyntax, 3, 3)
}

func TestWords(t *testing.T) {
	for i := range len(letters) {
		wantTokens(t, "P5.1: a letter", letters[i:i+1], api.Pos{Line: 1, Col: 2}, token(api.TokWord, letters[i:i+1], 1))
	}
	for _, s := range append(strings.Fields(keywords), "_", "__", "a0", "_9", "A1b2_C3", "classy", "Class", strings.Repeat("w", 32), "_"+strings.Repeat("9", 31)) {
		wantTokens(t, "P5.1: a word", s, api.Pos{Line: 1, Col: len(s) + 1}, token(api.TokWord, s, 1))
	}
	half := letters[:32]
	wantTexts(t, "P5.1: words as long as may be", half+" "+half+"\n"+half, half+" "+half+" "+half)
}

func TestNumbers(t *testing.T) {
	for _, s := range []string{"0", "9", "10", "00", "000", "007", "42", "99", "100", "999", "010"} {
		wantTokens(t, "P5.1: a number", s, api.Pos{Line: 1, Col: len(s) + 1}, token(api.TokNum, s, 1))
	}
	wantTokens(t, "P5.1: a word behind a number", "12a3", api.Pos{Line: 1, Col: 5}, token(api.TokNum, "12", 1), token(api.TokWord, "a3", 3))
	wantTokens(t, "P5.1: signs belong to no number", "-1+2.3", api.Pos{Line: 1, Col: 7},
		token(api.TokSign, "-", 1), token(api.TokNum, "1", 2), token(api.TokSign, "+", 3),
		token(api.TokNum, "2", 4), token(api.TokSign, ".", 5), token(api.TokNum, "3", 6))
	wantTexts(t, "P5.1: each number by itself", "999 999\n999_999", "999 999 999 _999")
}

func TestSigns(t *testing.T) {
	for i := range len(signs) {
		s := signs[i : i+1]
		wantTokens(t, "P5.1: a sign", s, api.Pos{Line: 1, Col: 2}, token(api.TokSign, s, 1))
		wantTokens(t, "P5.1: a sign twice", s+s, api.Pos{Line: 1, Col: 3}, token(api.TokSign, s, 1), token(api.TokSign, s, 2))
	}
	wantTokens(t, "P5.1: two colons", "::", api.Pos{Line: 1, Col: 3}, token(api.TokSign, "::", 1))
	wantTokens(t, "P5.1: four colons", "::::", api.Pos{Line: 1, Col: 5}, token(api.TokSign, "::", 1), token(api.TokSign, "::", 3))
	wantTexts(t, "P5.1: signs in a row", "a.T::f(x,y)[]=<;", "a . T :: f ( x , y ) [ ] = < ;")
}

// TestEachOctet has each octet alone, behind a word, and behind a number: what begins nothing is a fault.
func TestEachOctet(t *testing.T) {
	for octet := range 256 {
		s := string([]byte{byte(octet)})
		begins := strings.Contains(letters+digits+signs+blanks+"#", s)
		for _, ahead := range []string{"", "x", "5", " ", "\n", ";"} {
			_, _, fault := lex.Tokens(ahead + s)
			want := api.Fault{}
			if !begins {
				want = api.Fault{Err: api.ErrSyntax, Line: 1 + strings.Count(ahead, "\n"), Col: 1 + len(strings.TrimSuffix(ahead, "\n"))}
			}
			if fault != want {
				t.Errorf("P5.1: %q: fault %v, want %v", ahead+s, fault, want)
			}
		}
	}
}

func TestSyntaxFaults(t *testing.T) {
	wantFault(t, "P5.1: a colon alone", ":", api.ErrSyntax, 1, 1)
	wantFault(t, "P5.1: a colon at a line's end", "a:\n:", api.ErrSyntax, 1, 2)
	wantFault(t, "P5.1: colons apart", "a: :b", api.ErrSyntax, 1, 2)
	wantFault(t, "P5.1: three colons", "a:::b", api.ErrSyntax, 1, 4)
	wantFault(t, "P5.1: five colons", ":::::", api.ErrSyntax, 1, 5)
	wantFault(t, "P5.1: a colon ahead of a remark", ":#:", api.ErrSyntax, 1, 1)
	wantFault(t, "P5.1: the first of two", "a ? b\n!", api.ErrSyntax, 1, 3)
	wantFault(t, "P5.1: a letter of two octets", "aé", api.ErrSyntax, 1, 2)
	wantFault(t, "P5.1: a digit of three octets", "1\u0e51", api.ErrSyntax, 1, 2)
	wantFault(t, "P5.1: a wide blank", "a\u00a0b", api.ErrSyntax, 1, 2)
	wantFault(t, "P5.1: a mark of the octets' order", "\ufeffmain { }", api.ErrSyntax, 1, 1)
	wantFault(t, "P5.1: no blank of these", "a\vb", api.ErrSyntax, 1, 2)
	wantFault(t, "P5.1: no blank of these", "a\n\f", api.ErrSyntax, 2, 1)
	wantFault(t, "P5.1: a zero octet", "a\r\x00", api.ErrSyntax, 1, 3)
	wantFault(t, "P5.1: behind a remark", "# $\n  $", api.ErrSyntax, 2, 3)
}

func TestBigFaults(t *testing.T) {
	long := strings.Repeat("a", 33)
	wantFault(t, "P5.1: a long word", long, api.ErrBig, 1, 1)
	wantFault(t, "P5.1: a long word with digits", "_"+strings.Repeat("1", 32), api.ErrBig, 1, 1)
	wantFault(t, "P5.1: a longer word", "x\n  "+long+long, api.ErrBig, 2, 3)
	wantFault(t, "P5.1: a word as long as a text", strings.Repeat("z", 20000), api.ErrBig, 1, 1)
	wantFault(t, "P5.1: a long word behind a number", "999"+long, api.ErrBig, 1, 4)
	for _, s := range []string{"1000", "0000", "0999", "0001", "9999", "1234567890123456789012", strings.Repeat("0", 20000)} {
		wantFault(t, "P5.1: a long number", s, api.ErrBig, 1, 1)
	}
	wantFault(t, "P5.1: a long number ahead of a word", "a = 1000b;", api.ErrBig, 1, 5)
	wantTokens(t, "P5.1: long in a remark", "#"+long+" 1000", api.Pos{Line: 1, Col: 40})
}

func TestFirstFault(t *testing.T) {
	long := strings.Repeat("a", 33)
	wantFault(t, "P5.1: syntax ahead of big", "$ "+long, api.ErrSyntax, 1, 1)
	wantFault(t, "P5.1: big ahead of syntax", long+"$", api.ErrBig, 1, 1)
	wantFault(t, "P5.1: big ahead of syntax", "\n 1000$", api.ErrBig, 2, 2)
	wantFault(t, "P5.1: syntax ahead of big", "\n :1000", api.ErrSyntax, 2, 2)
	wantFault(t, "P5.1: a number ahead of a word", "1000"+long, api.ErrBig, 1, 1)
}

func TestLongTexts(t *testing.T) {
	wantTokens(t, "P5.1: as long as may be", strings.Repeat(" ", 20000), api.Pos{Line: 1, Col: 20001})
	wantTokens(t, "P5.1: as long as may be", strings.Repeat("\n", 20000), api.Pos{Line: 20001, Col: 1})
	wantTokens(t, "P5.1: as long as may be", "#"+strings.Repeat("$", 19999), api.Pos{Line: 1, Col: 20001})
	wantTokens(t, "P5.1: as long as may be", strings.Repeat("\n", 19999)+"x", api.Pos{Line: 20000, Col: 2},
		api.Token{Kind: api.TokWord, Text: "x", At: api.Pos{Line: 20000, Col: 1}})
	if got, _, fault := lex.Tokens(strings.Repeat(";", 20000)); len(got) != 20000 || fault != (api.Fault{}) {
		t.Errorf("P5.1: as many tokens as may be: %d, %v", len(got), fault)
	}
	for _, s := range []string{" ", "\n", ";", "a", "a ", "1", "$", "#", "::", "\xff"} {
		wantFault(t, "P5.1: too long", strings.Repeat(s, 20001), api.ErrBig, 1, 1)
	}
	wantFault(t, "P5.1: too long, its end a blank", strings.Repeat("\n", 20000)+" ", api.ErrBig, 1, 1)
	wantFault(t, "P5.1: too long goes ahead of others", "\n$"+strings.Repeat(" ", 20000), api.ErrBig, 1, 1)
	wantFault(t, "P5.1: far too long", strings.Repeat("x ", 1<<20), api.ErrBig, 1, 1)
	wantFault(t, "P5.1: not too long: its last octet", strings.Repeat(" ", 19999)+"$", api.ErrSyntax, 1, 20000)
}

func TestKeyword(t *testing.T) {
	for _, s := range strings.Fields(keywords) {
		if !lex.Keyword(s) || lex.Name(s) {
			t.Errorf("P5.2: %q: a keyword %v, a name %v", s, lex.Keyword(s), lex.Name(s))
		}
		for _, other := range []string{s + "s", s[1:], s[:len(s)-1], s + " ", " " + s, s + "\x00", strings.ToUpper(s), s + s, s + "_"} {
			if !slices.Contains(strings.Fields(keywords), other) && lex.Keyword(other) {
				t.Errorf("P5.2: %q: a keyword", other)
			}
		}
	}
	for _, s := range []string{"", " ", "x", "1", "this", "String", "object", "bool", "for", "{", "::", "class extends", "\xff", keywords} {
		if lex.Keyword(s) {
			t.Errorf("P5.2: %q: a keyword", s)
		}
	}
}

func TestName(t *testing.T) {
	names := append(strings.Split(letters, ""), "this", "classy", "Class", "INT", "in", "voids", "_int", "a0", "_0", "x"+digits, strings.Repeat("a", 31), strings.Repeat("a", 32), "_"+strings.Repeat("9", 31))
	for _, s := range names {
		if !lex.Name(s) || lex.Keyword(s) {
			t.Errorf("P5.2: %q: a name %v, a keyword %v", s, lex.Name(s), lex.Keyword(s))
		}
	}
	others := []string{"", "0", "9a", "99", "a b", " a", "a ", "a\n", "\na", "a\r", "a#", "#", "#a", "a.b", "a::b", "a[]", ";", "é", "aé", "a\x00", "\xff", "a\xff", "a-b", "class ", "int[]", strings.Repeat("a", 33), strings.Repeat("a", 100000), strings.Repeat("class", 7)}
	for _, s := range others {
		if lex.Name(s) {
			t.Errorf("P5.2: %q: a name", short(s))
		}
	}
}

// TestNameOfEachOctet has each octet alone, behind a letter and ahead of one.
func TestNameOfEachOctet(t *testing.T) {
	for octet := range 256 {
		s := string([]byte{byte(octet)})
		letter := strings.Contains(letters, s)
		behind := strings.Contains(letters+digits, s)
		if lex.Name(s) != letter || lex.Name(s+"q") != letter || lex.Name("q"+s) != behind || lex.Name("q"+s+"q") != behind {
			t.Errorf("P5.2: %q: %v, %v, %v, %v", s, lex.Name(s), lex.Name(s+"q"), lex.Name("q"+s), lex.Name("q"+s+"q"))
		}
		if lex.Keyword(s) {
			t.Errorf("P5.2: %q: a keyword", s)
		}
	}
}

func TestAnswersAreNewMemory(t *testing.T) {
	const s = "class A { field int f; }\n# end\nmain { x = A::f(12); }"
	changed, _, _ := lex.Tokens(s)
	kept, _, _ := lex.Tokens(s)
	want := slices.Clone(kept)
	for i := range changed {
		changed[i] = api.Token{Kind: 9, Text: "changed", At: api.Pos{Line: 7, Col: 7}}
	}
	_ = append(changed, changed...)
	if !slices.Equal(kept, want) {
		t.Errorf("P5.3: another answer is %v now", kept)
	}
	if again, _, _ := lex.Tokens(s); !slices.Equal(again, want) {
		t.Errorf("P5.3: behind a change of an answer: %v, want %v", again, want)
	}
	for _, keyword := range strings.Fields(keywords) {
		if !lex.Keyword(keyword) {
			t.Errorf("P5.3: %q is no keyword any more", keyword)
		}
	}
}

// TestTextsAreNewMemory overwrites the octets of which a text was made: no token may change with them.
func TestTextsAreNewMemory(t *testing.T) {
	octets := []byte("main { x = y.f; n = 12; T::s = x; }")
	want, _, _ := lex.Tokens(string(octets))
	got, _, fault := lex.Tokens(unsafe.String(&octets[0], len(octets)))
	for i := range octets {
		octets[i] = '?'
	}
	if !slices.Equal(got, want) || fault != (api.Fault{}) {
		t.Errorf("P5.3: tokens are pieces of what was handed in: %v, %v", got, fault)
	}
}
