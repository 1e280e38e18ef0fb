package queue_test

import (
	"slices"
	"testing"

	"winnower/queue"
)

// model is a queue as plainly as can be, to hold the real one against: its line.
type model []int

func (m *model) put(ns []int) int {
	count := 0
	for _, n := range ns {
		if n >= 0 && n <= last && !slices.Contains(*m, n) {
			*m = append(*m, n)
			count++
		}
	}
	return count
}

func (m *model) next() (int, bool) {
	if len(*m) == 0 {
		return 0, false
	}
	n := (*m)[0]
	*m = slices.Delete(*m, 0, 1)
	return n, true
}

// dice answers the same numbers at each run.
type dice uint64

func (d *dice) roll(n int) int {
	*d = *d*6364136223846793005 + 1442695040888963407
	return int(uint64(*d)>>33) % n
}

// list is a few of n numbers at an end of those that may be in a queue, at times with one that may not.
func (d *dice) list(n int) []int {
	list := make([]int, d.roll(6))
	for i := range list {
		switch d.roll(8) {
		case 0:
			list[i] = outside[d.roll(len(outside))]
		case 1, 2, 3:
			list[i] = last - d.roll(n)
		default:
			list[i] = d.roll(n)
		}
	}
	return list
}

// TestAgainstModel takes queues through the same calls as models of them.
func TestAgainstModel(t *testing.T) {
	d := dice(1)
	for _, n := range []int{1, 2, 3, 5, 10, 40, 150} {
		for _, eager := range []int{1, 3, 6} {
			q, m := queue.New(), model{}
			for range 400 {
				for range d.roll(eager + 1) {
					got, ok := q.Next()
					if want, wantOK := m.next(); got != want || ok != wantOK {
						t.Fatalf("P3.2: Next of %d is %d, %v, want %d, %v", n, got, ok, want, wantOK)
					}
				}
				list := d.list(n)
				if got, want := q.Put(list...), m.put(list); got != want {
					t.Fatalf("P3.1: Put(%v) of %d is %d, want %d", list, n, got, want)
				}
				if at := d.roll(n); q.Has(at) != slices.Contains(m, at) {
					t.Fatalf("P3.1: Has(%d) of %d is %v", at, n, q.Has(at))
				}
				wantLine(t, "P3.2: as the model", q, m...)
			}
		}
	}
}
