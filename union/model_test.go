package union_test

import (
	"testing"
)

// model is a union as plainly as can be, to hold the real one against: each number's head.
type model []int

func newModel(n int) model {
	m := make(model, n)
	for i := range m {
		m[i] = i
	}
	return m
}

func (m model) hasAll(ns []int) bool {
	for _, n := range ns {
		if n < 0 || n >= len(m) {
			return false
		}
	}
	return true
}

func (m model) same(ns []int) bool {
	if !m.hasAll(ns) {
		return false
	}
	for _, n := range ns {
		if m[n] != m[ns[0]] {
			return false
		}
	}
	return true
}

func (m model) join(ns []int) bool {
	if !m.hasAll(ns) || m.same(ns) {
		return false
	}
	for _, n := range ns {
		from, to := max(m[n], m[ns[0]]), min(m[n], m[ns[0]])
		for i, head := range m {
			if head == from {
				m[i] = to
			}
		}
	}
	return true
}

func (m model) classes() [][]int {
	var all [][]int
	for head := range m {
		var class []int
		for n := range m {
			if m[n] == head {
				class = append(class, n)
			}
		}
		if class != nil {
			all = append(all, class)
		}
	}
	return all
}

// dice answers the same numbers at each run.
type dice uint64

func (d *dice) roll(n int) int {
	*d = *d*6364136223846793005 + 1442695040888963407
	return int(uint64(*d)>>33) % n
}

// list is a few numbers of a union of n, at times with one that is none.
func (d *dice) list(n int) []int {
	list := make([]int, d.roll(5))
	for i := range list {
		list[i] = d.roll(n)
	}
	if len(list) > 0 && d.roll(8) == 0 {
		list[d.roll(len(list))] = d.roll(2)*(n+1) - 1
	}
	return list
}

// TestAgainstModel takes unions of several sizes through the same calls as models of them.
func TestAgainstModel(t *testing.T) {
	d := dice(1)
	for _, n := range []int{1, 2, 3, 5, 10, 40, 150} {
		for range 10 {
			u, m := made(t, n), newModel(n)
			for range n {
				list := d.list(n)
				if got, want := u.Same(list...), m.same(list); got != want {
					t.Fatalf("P2.1: Same(%v) of %d is %v", list, n, got)
				}
				if got, want := u.Join(list...), m.join(list); got != want {
					t.Fatalf("P2.2: Join(%v) of %d is %v", list, n, got)
				}
				if at := d.roll(n); u.Head(at) != m[at] {
					t.Fatalf("P2.1: Head(%d) of %d is %d", at, n, u.Head(at))
				}
			}
			wantClasses(t, "P2.3: as the model", u, m.classes()...)
		}
	}
}
