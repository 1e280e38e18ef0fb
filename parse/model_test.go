package parse_test

import (
	"slices"
	"strings"
	"testing"

	"winnower/api"
	"winnower/lex"
	"winnower/parse"
)

// grammar is the document's, line by line: alternatives stand with | between, NAME and NUMBER are tokens of these kinds. What begins with @ is no token: @in begins lists, @out ends them, @deep goes into a block, @up out of it; any other tells of which list one more begins at the next token. (Of alternatives that go on alike, the one ahead counts as long as both may be.)
const grammar = `
program: @in items main { block } @out
items: | @classes class NAME super impl @in { members } @out items | @classes interface NAME ext @in { signatures } @out items
super: | extends NAME
impl: | implements @in @faces NAME faces @out
ext: | extends @in @faces NAME faces @out
faces: | , @faces NAME faces
signatures: | @methods method ret NAME ( params ) ; signatures
members: | init { block } rest | @fields field type NAME ; members | @statics static type NAME ; members | @methods method ret NAME ( params ) { block } members | @methods static method ret NAME ( params ) { block } members
rest: | @fields field type NAME ; rest | @statics static type NAME ; rest | @methods method ret NAME ( params ) { block } rest | @methods static method ret NAME ( params ) { block } rest
params: | @in @params type NAME more @out
more: | , @params type NAME more
ret: void | type
type: int | NAME | NAME [ ]
block: @in locals stmts @out
locals: | @locals var type NAME ; locals
stmts: | @stmts stmt stmts
nest: @deep { @in stmts @out } @up
other: | else nest
args: | @in @args NAME names @out
names: | , @args NAME names
stmt: NAME = value ; | NAME . NAME = NAME ; | NAME :: NAME = NAME ; | NAME [ NAME ] = NAME ; | call ; | throw NAME ; | return ; | return NAME ; | try nest catch ( NAME NAME ) nest | if ( NAME < NAME ) nest other | while ( NAME < NAME ) nest
value: new NAME | new NAME [ ] | null | NAME | ( NAME ) NAME | ( NAME [ ] ) NAME | NAME . NAME | NAME :: NAME | NAME [ NAME ] | call | NUMBER | NAME + NAME | NAME - NAME | input
call: NAME . NAME ( args ) | NAME . NAME :: NAME ( args ) | NAME :: NAME ( args )
`

// alternatives are the grammar's.
var alternatives = rules()

// rules are the grammar's alternatives by their names.
func rules() map[string][][]string {
	all := map[string][][]string{}
	for _, line := range strings.Split(strings.TrimSpace(grammar), "\n") {
		name, right, _ := strings.Cut(line, ":")
		for _, alternative := range strings.Split(right, "|") {
			all[name] = append(all[name], strings.Fields(alternative))
		}
	}
	return all
}

// way is one of the ways in which the tokens so far may be read: what must come yet, the counts of the lists that are open, how deep it stands, whether the next token is one too many, and at which token that was so first (-1: none).
type way struct {
	goal   *cell
	counts *frame
	deep   int
	full   bool
	big    int
}

// cell is a list of what must come yet.
type cell struct {
	symbol string
	next   *cell
}

// frame has the counts of lists, and those around them.
type frame struct {
	names []string
	up    *frame
}

// model reads tokens in all ways at once.
type model struct {
	ways []way
}

func newModel(start string) *model {
	return &model{[]way{{goal: &cell{start, nil}, counts: &frame{}, big: -1}}}
}

// mark does what a symbol with @ tells.
func (w way) mark(symbol string) way {
	switch symbol {
	case "@in":
		w.counts = &frame{up: w.counts}
	case "@out":
		w.counts = w.counts.up
	case "@deep":
		w.deep++
		w.full = w.deep > 8
	case "@up":
		w.deep--
	default:
		most := 40
		if symbol == "@classes" {
			most = 60
		}
		had := 0
		for _, name := range w.counts.names {
			if name == symbol {
				had++
			}
		}
		w.full = had >= most
		w.counts = &frame{append(slices.Clone(w.counts.names), symbol), w.counts.up}
	}
	return w
}

// spread are the ways with a token, or nothing, ahead.
func spread(w way) []way {
	if w.goal == nil {
		return []way{w}
	}
	symbol := w.goal.symbol
	if strings.HasPrefix(symbol, "@") {
		w.goal = w.goal.next
		return spread(w.mark(symbol))
	}
	choices, known := alternatives[symbol]
	if !known {
		return []way{w}
	}
	var all []way
	for _, alternative := range choices {
		next := w
		next.goal = w.goal.next
		for _, s := range slices.Backward(alternative) {
			next.goal = &cell{s, next.goal}
		}
		all = append(all, spread(next)...)
	}
	return all
}

// fits: may the token stand for the symbol?
func fits(symbol, token string) bool {
	switch symbol {
	case "NAME":
		return lex.Name(token)
	case "NUMBER":
		return token[0] >= '0' && token[0] <= '9'
	}
	return symbol == token
}

// read goes behind a token in all ways that it may stand in; false, if it may in none.
func (m *model) read(index int, token string) bool {
	var next []way
	for _, before := range m.ways {
		for _, w := range spread(before) {
			if w.goal == nil || !fits(w.goal.symbol, token) {
				continue
			}
			if w.full && w.big < 0 {
				w.big = index
			}
			w.full, w.goal = false, w.goal.next
			next = append(next, w)
		}
	}
	if len(next) == 0 {
		return false
	}
	m.ways = next
	return true
}

// ends: may the text end here?
func (m *model) ends() bool {
	for _, before := range m.ways {
		for _, w := range spread(before) {
			if w.goal == nil {
				return true
			}
		}
	}
	return false
}

// fault is that of tokens, and the number of the token at which it is.
func (m *model) fault(tokens []string) (api.Errno, int) {
	for i, token := range tokens {
		if !m.read(i, token) {
			return m.bigOr(api.ErrSyntax, i)
		}
	}
	if !m.ends() {
		return m.bigOr(api.ErrSyntax, len(tokens))
	}
	return m.bigOr(api.OK, 0)
}

// bigOr is what was too big so far, or else this.
func (m *model) bigOr(err api.Errno, index int) (api.Errno, int) {
	if big := m.ways[0].big; big >= 0 {
		return api.ErrBig, big
	}
	return err, index
}

// texts are those of a text's tokens.
func texts(t *testing.T, s string) []string {
	t.Helper()
	tokens, _, fault := lex.Tokens(s)
	if fault != (api.Fault{}) {
		t.Fatalf("%q: %v", s, fault)
	}
	var list []string
	for _, token := range tokens {
		list = append(list, token.Text)
	}
	return list
}

// wantModel asks for what tokens are, a program or a stmt: a fault just where the model has one. It answers which.
func wantModel(t *testing.T, start string, tokens []string) api.Errno {
	t.Helper()
	text := strings.Join(tokens, " ")
	err, index := newModel(start).fault(tokens)
	want := api.Fault{}
	if err != api.OK {
		ahead := len(strings.Join(tokens[:index], " "))
		if index > 0 && index < len(tokens) {
			ahead++
		}
		want = api.Fault{Err: err, Line: 1, Col: ahead + 1}
	}
	_, got := parse.Parse(text)
	if start == "stmt" {
		_, got = parse.Stmt(text)
	}
	if got != want {
		t.Errorf("P7.1, P7.2: a %s: %q: fault %v, want %v", start, short(text), got, want)
	}
	return err
}

// vocabulary are tokens of all kinds.
var vocabulary = strings.Fields("class extends implements interface field static method init main var new null input throw try catch if else while return int void x 7 { } ( ) [ ] ; , = . < + - ::")

// dice answers the same numbers at each run.
type dice uint64

func (d *dice) roll(n int) int {
	*d = *d*6364136223846793005 + 1442695040888963407
	return int(uint64(*d)>>33) % n
}

// changed are tokens with a few of them left out, twice, in another's place, or others.
func (d *dice) changed(tokens []string) []string {
	list := slices.Clone(tokens)
	for range 1 + d.roll(2) {
		if len(list) == 0 {
			break
		}
		i, j := d.roll(len(list)), d.roll(len(list))
		switch d.roll(6) {
		case 0:
			list = slices.Delete(list, i, i+1)
		case 1:
			list = slices.Insert(list, i, vocabulary[d.roll(len(vocabulary))])
		case 2:
			list[i] = vocabulary[d.roll(len(vocabulary))]
		case 3:
			list[i], list[j] = list[j], list[i]
		case 4:
			list = list[:i]
		case 5:
			list = slices.Insert(list, i, list[j])
		}
	}
	return list
}

// TestStmtsAgainstModel has each beginning of a statement of up to so many tokens, with each token behind it.
func TestStmtsAgainstModel(t *testing.T) {
	level := [][]string{{}}
	for range 9 {
		var next [][]string
		for _, ahead := range level {
			for _, token := range vocabulary {
				tokens := append(slices.Clone(ahead), token)
				wantModel(t, "stmt", tokens)
				if newModel("stmt").viable(tokens) {
					next = append(next, tokens)
				}
			}
		}
		level = next
	}
	if len(level) < 100 {
		t.Errorf("only %d beginnings", len(level))
	}
}

// viable: does anything go on so?
func (m *model) viable(tokens []string) bool {
	for i, token := range tokens {
		if !m.read(i, token) {
			return false
		}
	}
	return true
}

func TestProgramsAgainstModel(t *testing.T) {
	d := dice(7)
	counts := map[api.Errno]int{}
	for round := range 1500 {
		m := maker{dice: &d, crowded: round%3 == 0}
		m.program()
		if len(strings.Join(m.tokens, " ")) > api.MaxText {
			continue
		}
		counts[wantModel(t, "program", m.tokens)]++
		for range 4 {
			counts[wantModel(t, "program", d.changed(m.tokens))]++
		}
	}
	for _, err := range []api.Errno{api.OK, api.ErrSyntax, api.ErrBig} {
		if counts[err] < 200 {
			t.Errorf("only %d with error %d", counts[err], err)
		}
	}
}
