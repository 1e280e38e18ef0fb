package queue_test

import (
	"math"
	"slices"
	"testing"

	"winnower/queue"
)

const last = 1<<20 - 1

// outside are numbers that may be in no queue.
var outside = []int{-1, -2, -last, math.MinInt, math.MinInt + 1, 1 << 20, 1<<20 + 1, 1 << 31, 1 << 32, 1<<32 + 5, math.MaxInt}

// wantLine holds all that a queue tells against its line.
func wantLine(t *testing.T, what string, q *queue.Queue, want ...int) {
	t.Helper()
	if got := q.List(); !slices.Equal(got, want) {
		t.Errorf("%s: List %v, want %v", what, short(got), short(want))
	}
	if q.Len() != len(want) {
		t.Errorf("%s: Len %d, want %d", what, q.Len(), len(want))
	}
	for _, n := range want {
		if !q.Has(n) {
			t.Errorf("%s: Has(%d) is false", what, n)
			return
		}
	}
}

// wantNext takes the first ones of a queue, which must be these.
func wantNext(t *testing.T, what string, q *queue.Queue, want ...int) {
	t.Helper()
	for _, n := range want {
		if got, ok := q.Next(); got != n || !ok {
			t.Fatalf("%s: Next %d, %v, want %d", what, got, ok, n)
		}
		if q.Has(n) {
			t.Fatalf("%s: Has(%d) behind Next", what, n)
		}
	}
}

// wantPut puts numbers, of which so many must be new.
func wantPut(t *testing.T, what string, q *queue.Queue, want int, ns ...int) {
	t.Helper()
	if got := q.Put(ns...); got != want {
		t.Errorf("%s: Put(%v) is %d, want %d", what, short(ns), got, want)
	}
}

// wantNone holds a queue against an empty one.
func wantNone(t *testing.T, what string, q *queue.Queue) {
	t.Helper()
	wantLine(t, what, q)
	for range 2 {
		if n, ok := q.Next(); n != 0 || ok {
			t.Errorf("%s: Next of an empty one is %d, %v", what, n, ok)
		}
	}
	wantLine(t, what+": behind Next", q)
	for _, n := range []int{0, 1, 5, last} {
		if q.Has(n) {
			t.Errorf("%s: Has(%d) of an empty one", what, n)
		}
	}
}

// short keeps what a failing test tells readable.
func short(list []int) []int {
	return list[:min(len(list), 20)]
}

func TestExample(t *testing.T) {
	q := queue.New()
	wantPut(t, "P3.1: the example", q, 2, 3, 1, 3)
	wantNext(t, "P3.1: the example", q, 3)
	wantPut(t, "P3.2: the example", q, 1, 3)
	wantNext(t, "P3.2: the example", q, 1, 3)
	wantNone(t, "P3.2: the example's end", q)
}

func TestNew(t *testing.T) {
	a, b := queue.New(), queue.New()
	if a == nil || b == nil || a == b {
		t.Fatal("P3.1: New answers no queue of its own")
	}
	wantNone(t, "P3.1: New", a)
	wantPut(t, "P3.1: one of two", a, 2, 4, 2)
	wantNone(t, "P3.1: the other one", b)
	wantPut(t, "P3.1: the other one", b, 2, 2, 9)
	wantLine(t, "P3.1: one of two", a, 4, 2)
	wantLine(t, "P3.1: the other one", b, 2, 9)
}

func TestPut(t *testing.T) {
	q := queue.New()
	steps := []struct {
		put   []int
		count int
		line  []int
	}{
		{nil, 0, nil},
		{[]int{}, 0, nil},
		{[]int{7}, 1, []int{7}},
		{[]int{7}, 0, []int{7}},
		{[]int{7, 7, 7}, 0, []int{7}},
		{[]int{0}, 1, []int{7, 0}},
		{[]int{9, 7, 8, 9, 0, 8}, 2, []int{7, 0, 9, 8}},
		{[]int{8, 0, 9, 7}, 0, []int{7, 0, 9, 8}},
		{[]int{last, last - 1, 1, last}, 3, []int{7, 0, 9, 8, last, last - 1, 1}},
		{nil, 0, []int{7, 0, 9, 8, last, last - 1, 1}},
	}
	for _, s := range steps {
		wantPut(t, "P3.1", q, s.count, s.put...)
		wantLine(t, "P3.1: behind Put", q, s.line...)
	}
	for _, n := range []int{2, 3, 6, 10, last - 2} {
		if q.Has(n) {
			t.Errorf("P3.1: Has(%d) is true", n)
		}
	}
}

func TestPutOfWhatMayNotBeInIt(t *testing.T) {
	q := queue.New()
	wantPut(t, "P3.1: none that may be in it", q, 0, outside...)
	wantNone(t, "P3.1: none that may be in it", q)
	for _, n := range outside {
		wantPut(t, "P3.1: one alone", q, 0, n)
		if q.Has(n) {
			t.Errorf("P3.1: Has(%d) is true", n)
		}
	}
	for i, n := range outside {
		wantPut(t, "P3.1: ahead of, between and behind others", q, 2, n, 100+i, n, 200+i, n)
	}
	for i, n := range outside {
		wantNext(t, "P3.1: between others", q, 100+i, 200+i)
		if q.Has(n) {
			t.Errorf("P3.1: Has(%d) is true", n)
		}
	}
	wantNone(t, "P3.1: behind those that may not be in it", q)
}

func TestNextOfBothEnds(t *testing.T) {
	q := queue.New()
	wantPut(t, "P3.1: both ends", q, 2, last, 0)
	wantNext(t, "P3.1: both ends", q, last, 0)
	wantNone(t, "P3.1: both ends", q)
}

func TestTakenMayBePutAgain(t *testing.T) {
	q := queue.New()
	wantPut(t, "P3.2", q, 4, 5, 6, 7, 8)
	wantNext(t, "P3.2", q, 5, 6)
	wantLine(t, "P3.2: behind Next", q, 7, 8)
	wantPut(t, "P3.2: one that was taken and one that wasn't", q, 1, 8, 5)
	wantLine(t, "P3.2: put again", q, 7, 8, 5)
	wantPut(t, "P3.2: put again already", q, 1, 5, 6, 5)
	wantLine(t, "P3.2: put again", q, 7, 8, 5, 6)
	wantNext(t, "P3.2", q, 7, 8, 5, 6)
	wantNone(t, "P3.2: all taken", q)
	wantPut(t, "P3.2: behind an empty one", q, 2, 6, 5)
	wantNext(t, "P3.2: behind an empty one", q, 6, 5)
	wantNone(t, "P3.2: empty again", q)
}

func TestOneForEver(t *testing.T) {
	q := queue.New()
	for i := range 10000 {
		wantPut(t, "P3.2: one put and taken", q, 1, i%3)
		wantNext(t, "P3.2: one put and taken", q, i%3)
	}
	wantNone(t, "P3.2: one put and taken", q)
}

func TestRoundAndRound(t *testing.T) {
	for _, size := range []int{1, 2, 3, 7, 8, 64, 100} {
		q := queue.New()
		for n := range size {
			q.Put(n)
		}
		for i := range 5*size + 3 {
			wantNext(t, "P3.2: round", q, i%size)
			wantPut(t, "P3.2: round", q, 1, i%size)
		}
		if q.Len() != size {
			t.Errorf("P3.2: a round of %d has %d", size, q.Len())
		}
	}
}

func TestAllThatMayBeInIt(t *testing.T) {
	q := queue.New()
	all := make([]int, last+1)
	for i := range all {
		all[i] = i * 7 & last
	}
	wantPut(t, "P3.1: all", q, len(all), all...)
	wantPut(t, "P3.1: all again", q, 0, all...)
	wantLine(t, "P3.1: all", q, all...)
	wantNext(t, "P3.2: half of all", q, all[:len(all)/2]...)
	wantPut(t, "P3.2: all, half of them taken", q, len(all)/2, all...)
	wantLine(t, "P3.2: all", q, append(slices.Clone(all[len(all)/2:]), all[:len(all)/2]...)...)
}

func TestWhatIsHandedInIsNeitherChangedNorKept(t *testing.T) {
	q := queue.New()
	room := []int{4, 2, 4, 1, 8, 9}
	ahead := slices.Clone(room)
	q.Put(room[:4]...)
	q.Put(20, 21, 22)
	q.Next()
	q.Put(4)
	if !slices.Equal(room, ahead) {
		t.Errorf("what Put was handed is %v now", room)
	}
	room[1], room[3] = 70, 71
	wantLine(t, "behind a change of what Put was handed", q, 2, 1, 20, 21, 22, 4)
}

func TestAnswersAreNewMemory(t *testing.T) {
	q := queue.New()
	q.Put(1, 2, 3, 4, 5)
	q.Next()
	changed, kept := q.List(), q.List()
	for i := range changed {
		changed[i] = 99
	}
	_ = append(changed, 98, 97, 96, 95)
	wantLine(t, "P3.2: behind a change of an answer", q, 2, 3, 4, 5)
	q.Put(6)
	q.Next()
	if !slices.Equal(kept, []int{2, 3, 4, 5}) {
		t.Errorf("P3.2: another answer is %v now", kept)
	}
	_ = append(kept[:2], 94, 93, 92, 91, 90)
	wantLine(t, "P3.2: behind a change of an answer", q, 3, 4, 5, 6)
	wantPut(t, "P3.2: its own list", q, 0, q.List()...)
	wantNext(t, "P3.2: behind a change of an answer", q, 3, 4, 5, 6)
}

// TestOthersDoNotPanic: of queues that New didn't answer nothing is promised but this.
func TestOthersDoNotPanic(t *testing.T) {
	for _, q := range []*queue.Queue{nil, {}} {
		q.Next()
		q.Has(0)
		q.Len()
		q.List()
		q.Put()
		q.Put(0, 1)
		q.Next()
		q.List()
	}
}
