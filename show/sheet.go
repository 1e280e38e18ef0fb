package show

import (
	"strings"
)

// indent is how much further in a row stands than the braces around it.
const indent = "  "

// row is a line as it is put down: how many braces it stands in, and its text. A name in it stands as it is, with its line feeds.
type row struct {
	deep int
	text string
}

// sheet is a text as rows. How far in they stand is kept as a number: the blanks of a deep nest may be far more than all else of it.
type sheet struct {
	rows []row
	deep int
}

// put puts down one row of texts.
func (s *sheet) put(texts ...string) {
	s.rows = append(s.rows, row{s.deep, strings.Join(texts, "")})
}

// open puts down a row that opens a brace, and further in what fill puts down.
func (s *sheet) open(fill func(), head ...string) {
	s.put(head...)
	s.deep++
	fill()
	s.deep--
}

// shut puts down the brace that ends what was opened.
func (s *sheet) shut() {
	s.put("}")
}

// text is the whole.
func (s *sheet) text() string {
	var b strings.Builder
	for _, r := range s.rows {
		b.WriteString(strings.Repeat(indent, r.deep))
		b.WriteString(r.text)
		b.WriteString("\n")
	}
	return b.String()
}

// oneLine is the whole with one blank between rows.
func (s *sheet) oneLine() string {
	texts := make([]string, 0, len(s.rows))
	for _, r := range s.rows {
		texts = append(texts, r.text)
	}
	return strings.Join(texts, " ")
}

// line is what stands ahead of a line feed of the whole text: how many blanks it begins with, and what is behind them.
type line struct {
	blanks int
	rest   string
}

// lines are those of the whole text. They are the same just if the texts are; rows are not, since a name may hold line feeds, and begin with blanks.
func (s *sheet) lines() []line {
	all := make([]line, 0, len(s.rows))
	for _, r := range s.rows {
		ahead := r.deep * len(indent)
		for _, text := range strings.Split(r.text, "\n") {
			rest := strings.TrimLeft(text, " ")
			all = append(all, line{ahead + len(text) - len(rest), rest})
			ahead = 0
		}
	}
	return all
}
