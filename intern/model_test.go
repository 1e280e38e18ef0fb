package intern_test

import (
	"slices"
	"testing"

	"winnower/api"
	"winnower/intern"
)

// model is a table as plainly as can be, to hold the real one against: its tuples and its texts, each at its number.
type model struct {
	tuples [][]int
	texts  []string
}

func (m *model) find(ns []int) (int, bool) {
	id := slices.IndexFunc(m.tuples, func(have []int) bool { return slices.Equal(have, ns) })
	return max(id, 0), id >= 0
}

func (m *model) id(ns []int) int {
	if len(ns) > api.MaxTuple {
		return -1
	}
	if id, ok := m.find(ns); ok {
		return id
	}
	m.tuples = append(m.tuples, slices.Clone(ns))
	return len(m.tuples) - 1
}

func (m *model) word(s string) int {
	if id := slices.Index(m.texts, s); id >= 0 {
		return id
	}
	m.texts = append(m.texts, s)
	return len(m.texts) - 1
}

// dice answers the same numbers at each run.
type dice uint64

func (d *dice) roll(n int) int {
	*d = *d*6364136223846793005 + 1442695040888963407
	return int(uint64(*d)>>33) % n
}

// list is at most 10 of the n numbers from -1 on: few, so that many tuples come again.
func (d *dice) list(n int) []int {
	list := make([]int, d.roll(11))
	for i := range list {
		list[i] = d.roll(n) - 1
	}
	return list
}

// text is a short one of n letters.
func (d *dice) text(n int) string {
	text := make([]byte, d.roll(4))
	for i := range text {
		text[i] = byte('a' + d.roll(n))
	}
	return string(text)
}

// TestAgainstModel takes tables through the same calls as models of them.
func TestAgainstModel(t *testing.T) {
	d := dice(1)
	for _, n := range []int{1, 2, 3, 10} {
		x, m := intern.New(), &model{}
		for range 400 {
			ns := d.list(n)
			id, ok := x.Find(ns...)
			if want, wantOK := m.find(ns); id != want || ok != wantOK {
				t.Fatalf("P4.1: Find(%v) is %d, %v, want %d, %v", ns, id, ok, want, wantOK)
			}
			if d.roll(2) == 0 {
				wantId(t, "P4.1: as the model", x, m.id(ns), ns...)
			} else {
				s := d.text(n)
				wantWord(t, "P4.2: as the model", x, m.word(s), s)
			}
		}
		wantTuples(t, "P4.3: as the model", x, m.tuples...)
		wantTexts(t, "P4.3: as the model", x, m.texts...)
	}
}
