package intern_test

import (
	"math"
	"slices"
	"strings"
	"testing"

	"winnower/api"
	"winnower/intern"
)

// noNumbers are numbers that no table gives.
var noNumbers = []int{-1, -2, math.MinInt, math.MinInt + 1, 1 << 32, 1 << 62, math.MaxInt}

// wantTuples holds all that a table tells of tuples against those that have numbers.
func wantTuples(t *testing.T, what string, x *intern.Table, want ...[]int) {
	t.Helper()
	if x.Len() != len(want) {
		t.Errorf("%s: Len %d, want %d", what, x.Len(), len(want))
	}
	for id, ns := range want {
		if got := x.Tuple(id); !slices.Equal(got, ns) {
			t.Errorf("%s: Tuple(%d) is %v, want %v", what, id, got, ns)
		}
		if got, ok := x.Find(ns...); got != id || !ok {
			t.Errorf("%s: Find(%v) is %d, %v, want %d", what, ns, got, ok, id)
		}
	}
	for _, id := range append([]int{len(want), len(want) + 1}, noNumbers...) {
		if got := x.Tuple(id); len(got) != 0 {
			t.Errorf("%s: Tuple(%d) is %v, want none", what, id, got)
		}
	}
}

// wantTexts holds all that a table tells of texts against those that have numbers.
func wantTexts(t *testing.T, what string, x *intern.Table, want ...string) {
	t.Helper()
	if got := x.Texts(); !slices.Equal(got, want) {
		t.Errorf("%s: Texts %q, want %q", what, got, want)
	}
	for id, s := range want {
		if got, ok := x.Text(id); got != s || !ok {
			t.Errorf("%s: Text(%d) is %q, %v, want %q", what, id, got, ok, s)
		}
	}
	for _, id := range append([]int{len(want), len(want) + 1}, noNumbers...) {
		if got, ok := x.Text(id); got != "" || ok {
			t.Errorf("%s: Text(%d) is %q, %v, want none", what, id, got, ok)
		}
	}
}

// wantId asks for a tuple's number.
func wantId(t *testing.T, what string, x *intern.Table, want int, ns ...int) {
	t.Helper()
	if got := x.Id(ns...); got != want {
		t.Errorf("%s: Id(%v) is %d, want %d", what, ns, got, want)
	}
}

// wantWord asks for a text's number.
func wantWord(t *testing.T, what string, x *intern.Table, want int, s string) {
	t.Helper()
	if got := x.Word(s); got != want {
		t.Errorf("%s: Word(%q) is %d, want %d", what, s, got, want)
	}
}

// wantUnknown looks for a tuple that has no number.
func wantUnknown(t *testing.T, what string, x *intern.Table, ns ...int) {
	t.Helper()
	if got, ok := x.Find(ns...); got != 0 || ok {
		t.Errorf("%s: Find(%v) is %d, %v, want 0, false", what, ns, got, ok)
	}
}

// rising are so many numbers from 1 on.
func rising(size int) []int {
	ns := make([]int, size)
	for i := range ns {
		ns[i] = i + 1
	}
	return ns
}

func TestExample(t *testing.T) {
	x := intern.New()
	wantId(t, "P4.1: the example", x, 0, 1, 2)
	wantId(t, "P4.1: the example", x, 1)
	wantId(t, "P4.1: the example", x, 0, 1, 2)
	wantId(t, "P4.1: the example", x, 2, 2, 1)
	wantTuples(t, "P4.1: the example", x, []int{1, 2}, nil, []int{2, 1})
}

func TestNew(t *testing.T) {
	a, b := intern.New(), intern.New()
	if a == nil || b == nil || a == b {
		t.Fatal("P4.1: New answers no table of its own")
	}
	wantTuples(t, "P4.1: New", a)
	wantTexts(t, "P4.2: New", a)
	wantUnknown(t, "P4.1: New", a)
	wantUnknown(t, "P4.1: New", a, 0)
	wantId(t, "P4.1: one of two", a, 0, 5)
	wantWord(t, "P4.2: one of two", a, 0, "five")
	wantTuples(t, "P4.1: the other one", b)
	wantTexts(t, "P4.2: the other one", b)
	wantId(t, "P4.1: the other one", b, 0, 6)
	wantId(t, "P4.1: the other one", b, 1, 5)
	wantTuples(t, "P4.1: one of two", a, []int{5})
	wantTexts(t, "P4.2: one of two", a, "five")
}

func TestSizes(t *testing.T) {
	x := intern.New()
	var want [][]int
	for size := range api.MaxTuple + 1 {
		wantId(t, "P4.1: sizes", x, size, rising(size)...)
		want = append(want, rising(size))
	}
	wantTuples(t, "P4.1: sizes", x, want...)
	for size := range api.MaxTuple + 1 {
		wantId(t, "P4.3: sizes again", x, size, rising(size)...)
	}
	wantTuples(t, "P4.3: sizes again", x, want...)
}

func TestTooLong(t *testing.T) {
	x := intern.New()
	for _, size := range []int{9, 10, 16, 17, 72, 1000} {
		wantId(t, "P4.1: too long in an empty one", x, -1, rising(size)...)
		wantUnknown(t, "P4.1: too long in an empty one", x, rising(size)...)
	}
	wantTuples(t, "P4.1: too long in an empty one", x)
	wantUnknown(t, "P4.1: nothing came of too long ones", x)
	wantUnknown(t, "P4.1: nothing came of too long ones", x, rising(8)...)
	wantId(t, "P4.1: as long as may be", x, 0, rising(8)...)
	for _, size := range []int{9, 10, 16, 17, 72, 1000} {
		wantId(t, "P4.1: too long, its start known", x, -1, rising(size)...)
		wantUnknown(t, "P4.1: too long, its start known", x, rising(size)...)
	}
	wantId(t, "P4.1: zeros behind", x, -1, append(rising(8), 0)...)
	wantId(t, "P4.1: zeros alone", x, -1, make([]int, 9)...)
	wantId(t, "P4.1: behind too long ones", x, 1, 7)
	wantTuples(t, "P4.1: behind too long ones", x, rising(8), []int{7})
}

func TestFindGivesNoNumber(t *testing.T) {
	x := intern.New()
	for range 3 {
		wantUnknown(t, "P4.1: none", x)
		wantUnknown(t, "P4.1: one", x, 4)
		wantUnknown(t, "P4.1: as long as may be", x, rising(8)...)
	}
	wantTuples(t, "P4.1: behind Find", x)
	wantId(t, "P4.1: behind Find", x, 0, 3)
	wantUnknown(t, "P4.1: another one", x, 4)
	wantUnknown(t, "P4.1: the empty one", x)
	wantId(t, "P4.1: behind Find", x, 1, 4)
	wantTuples(t, "P4.1: behind Find", x, []int{3}, []int{4})
}

// TestUnlikeTuples has tuples that a careless way of writing them down takes as one.
func TestUnlikeTuples(t *testing.T) {
	tuples := [][]int{
		{0}, {0, 0}, {}, {0, 0, 0, 0, 0, 0, 0, 0}, {0, 0, 0, 0, 0, 0, 0}, {1}, {1, 0}, {0, 1}, {1, 0, 0},
		{12, 3}, {1, 23}, {123}, {1, 2, 3}, {3, 2, 1}, {2, 1, 3},
		{-1}, {1, -1}, {-1, 1}, {-1, -1}, {-12}, {12}, {-1, 2}, {1, -2},
		{math.MaxInt}, {math.MinInt}, {math.MinInt + 1}, {math.MaxInt, math.MinInt}, {math.MinInt, math.MaxInt},
		{1 << 31}, {1 << 32}, {1 << 32, 0}, {0, 1 << 32}, {1<<32 + 1}, {1 << 8}, {1 << 16}, {256, 1}, {1, 256},
		{1, 2, 3, 4, 5, 6, 7}, {1, 2, 3, 4, 5, 6, 7, 0}, {1, 2, 3, 4, 5, 6, 7, 8}, {8, 7, 6, 5, 4, 3, 2, 1}, {0, 2, 3, 4, 5, 6, 7, 8}, {1, 2, 3, 4, 5, 6, 7, -8},
	}
	x := intern.New()
	for id, ns := range tuples {
		wantId(t, "P4.3: unlike ones", x, id, ns...)
	}
	wantTuples(t, "P4.3: each keeps its own", x, tuples...)
	for id := len(tuples) - 1; id >= 0; id-- {
		wantId(t, "P4.3: each keeps its own", x, id, tuples[id]...)
	}
	wantTuples(t, "P4.3: asked for again", x, tuples...)
}

func TestNilAndEmptyAreOne(t *testing.T) {
	x := intern.New()
	wantId(t, "P4.1: nil", x, 0, []int(nil)...)
	wantId(t, "P4.1: empty", x, 0, []int{}...)
	wantId(t, "P4.1: empty, with room", x, 0, rising(20)[:0]...)
	wantTuples(t, "P4.1: none", x, nil)
}

func TestWord(t *testing.T) {
	x := intern.New()
	long := strings.Repeat("a", 100000)
	words := []string{"b", "", "a", "B", "b ", " b", "bb", "\x00", "\x00\x00", "b\x00", "\xff", "\xfe", "\xff\xfe", "é", "e\u0301", "\ufffd", "0", "00", long, long + "a", long[:len(long)-1]}
	for id, s := range words {
		wantWord(t, "P4.2: a new one", x, id, s)
		wantWord(t, "P4.2: the same again", x, id, s)
		wantTexts(t, "P4.2: as far as asked", x, words[:id+1]...)
	}
	for id := len(words) - 1; id >= 0; id-- {
		wantWord(t, "P4.3: each keeps its own", x, id, strings.Clone(words[id]))
	}
	wantTexts(t, "P4.3: asked for again", x, words...)
}

func TestTextsAndTuplesApart(t *testing.T) {
	x := intern.New()
	wantWord(t, "P4.2: apart", x, 0, "1")
	wantTuples(t, "P4.1: a text is no tuple", x)
	wantId(t, "P4.1: apart", x, 0, 1)
	wantId(t, "P4.1: apart", x, 1)
	wantId(t, "P4.1: apart", x, 2, 2)
	wantTexts(t, "P4.2: a tuple is no text", x, "1")
	wantWord(t, "P4.2: apart", x, 1, "")
	wantTuples(t, "P4.1: apart", x, []int{1}, nil, []int{2})
	wantTexts(t, "P4.2: apart", x, "1", "")
}

func TestMany(t *testing.T) {
	x := intern.New()
	const side = 300
	for a := range side {
		for b := range side {
			if got := x.Id(a, -b); got != a*side+b {
				t.Fatalf("P4.1: Id(%d, %d) is %d", a, -b, got)
			}
		}
	}
	for id := range side * side {
		if got := x.Tuple(id); !slices.Equal(got, []int{id / side, -(id % side)}) {
			t.Fatalf("P4.3: Tuple(%d) is %v", id, got)
		}
	}
	if x.Len() != side*side {
		t.Errorf("P4.1: Len %d", x.Len())
	}
}

func TestWhatIsHandedInIsNeitherChangedNorKept(t *testing.T) {
	x := intern.New()
	for _, size := range []int{0, 1, 3, 8, 9} {
		room := rising(20)
		x.Id(room[:size]...)
		x.Find(room[:size]...)
		if !slices.Equal(room, rising(20)) {
			t.Errorf("P4.3: what Id was handed is %v now", room)
		}
		for i := range room {
			room[i] = 70 + i
		}
	}
	want := [][]int{nil, rising(1), rising(3), rising(8)}
	wantTuples(t, "P4.3: behind a change of what was handed in", x, want...)
	wantUnknown(t, "P4.3: what it was changed to", x, 70, 71, 72)
}

func TestAnswersAreNewMemory(t *testing.T) {
	x := intern.New()
	want := [][]int{{4, 5, 6}, rising(8), nil}
	for _, ns := range want {
		x.Id(ns...)
	}
	x.Word("a")
	x.Word("b")
	for id := range want {
		changed, kept := x.Tuple(id), x.Tuple(id)
		for i := range changed {
			changed[i] = 99
		}
		_ = append(changed, 98, 97, 96, 95, 94, 93, 92, 91)
		if !slices.Equal(kept, want[id]) {
			t.Errorf("P4.3: another answer is %v now", kept)
		}
		wantTuples(t, "P4.3: behind a change of an answer", x, want...)
	}
	changed, kept := x.Texts(), x.Texts()
	changed[0] = "z"
	_ = append(changed[:1], "y", "x", "w")
	wantTexts(t, "P4.3: behind a change of an answer", x, "a", "b")
	wantWord(t, "P4.3: behind a change of an answer", x, 0, "a")
	_ = append(kept, "v")
	wantWord(t, "P4.3: behind a change of an answer", x, 2, "c")
	_ = append(kept, "u")
	wantTexts(t, "P4.3: behind a change of an answer", x, "a", "b", "c")
	if !slices.Equal(kept, []string{"a", "b"}) {
		t.Errorf("P4.3: an answer is %q now", kept)
	}
}

// TestOthersDoNotPanic: of tables that New didn't answer nothing is promised but this.
func TestOthersDoNotPanic(t *testing.T) {
	for _, x := range []*intern.Table{nil, {}} {
		x.Find()
		x.Tuple(0)
		x.Len()
		x.Text(0)
		x.Texts()
		x.Id()
		x.Id(1, 2)
		x.Word("a")
		x.Tuple(0)
		x.Text(0)
		x.Texts()
	}
}
