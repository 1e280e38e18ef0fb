package ints_test

import (
	"maps"
	"slices"
	"testing"

	"winnower/ints"
)

// model is a set as plainly as can be, to hold the real one against.
type model map[int]struct{}

func (m model) list() []int { return slices.Sorted(maps.Keys(m)) }

func (m model) has(n int) bool {
	_, there := m[n]
	return there
}

func (m model) add(n int) bool {
	if m.has(n) || n < 0 || n > last {
		return false
	}
	m[n] = struct{}{}
	return true
}

func (m model) minus(o model) model {
	left := model{}
	for n := range m {
		if !o.has(n) {
			left[n] = struct{}{}
		}
	}
	return left
}

func (m model) union(o model) model {
	both := maps.Clone(m)
	maps.Copy(both, o)
	return both
}

// dice answers the same numbers at each run.
type dice uint64

func (d *dice) roll(n int) int {
	*d = *d*6364136223846793005 + 1442695040888963407
	return int(uint64(*d)>>33) % n
}

// pair is a set and what it must be.
type pair struct {
	set  *ints.Set
	want model
}

func checkPair(t *testing.T, a, b pair) {
	t.Helper()
	union, minus := a.want.union(b.want), a.want.minus(b.want)
	wantSet(t, "Union", a.set.Union(b.set), union.list()...)
	wantSet(t, "Minus", a.set.Minus(b.set), minus.list()...)
	if got, want := a.set.Same(b.set), maps.Equal(a.want, b.want); got != want {
		t.Errorf("Same is %v", got)
	}
	if got, want := a.set.Meets(b.set), len(minus) < len(a.want); got != want {
		t.Errorf("Meets is %v", got)
	}
}

// TestAgainstModel takes sets of all sizes, thick and thin, through the same calls as models of them.
func TestAgainstModel(t *testing.T) {
	d := dice(1)
	for _, span := range []int{3, 70, 300, 5000, 1<<20 + 20} {
		for _, size := range []int{0, 1, 2, 20, 40, 200, 1500} {
			ps := make([]pair, 3)
			for i := range ps {
				ps[i] = pair{ints.Of(), model{}}
			}
			for range size {
				p, n := ps[d.roll(3)], d.roll(span)-1
				if got, want := p.set.Add(n), p.want.add(n); got != want {
					t.Fatalf("P1.1: Add(%d) is %v", n, got)
				}
				if probe := d.roll(span); p.set.Has(probe) != p.want.has(probe) {
					t.Fatalf("P1.1: Has(%d)", probe)
				}
			}
			for _, a := range ps {
				wantSet(t, "P1.1: Add", a.set, a.want.list()...)
				for _, b := range ps {
					checkPair(t, a, b)
				}
			}
			fresh := ps[1].want.minus(ps[0].want)
			wantList(t, "P1.2: Merge", ps[0].set.Merge(ps[1].set), fresh.list()...)
			maps.Copy(ps[0].want, fresh)
			for _, p := range ps {
				wantSet(t, "P1.2: behind Merge", p.set, p.want.list()...)
				checkPair(t, ps[0], p)
			}
		}
	}
}
