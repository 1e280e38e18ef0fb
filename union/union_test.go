package union_test

import (
	"math"
	"slices"
	"testing"

	"winnower/api"
	"winnower/union"
)

const most = 1 << 16

// made is a union that must be there.
func made(t *testing.T, n int) *union.Union {
	t.Helper()
	u, err := union.New(n)
	if u == nil || err != api.OK {
		t.Fatalf("P2.1: New(%d): %v, %v", n, u, err)
	}
	return u
}

// outside are no numbers of a union of n.
func outside(n int) []int {
	return []int{-1, -2, -n, math.MinInt, math.MinInt + 1, n, n + 1, n + 1<<32, n + most, 1 << 20, 1 << 32, 1<<32 + 1, math.MaxInt}
}

// wantClasses holds all that a union tells against its classes, rising by their heads.
func wantClasses(t *testing.T, what string, u *union.Union, want ...[]int) {
	t.Helper()
	got := u.Classes()
	if !slices.EqualFunc(got, want, slices.Equal[[]int]) {
		t.Errorf("%s: Classes %v, want %v", what, got[:min(len(got), 20)], want[:min(len(want), 20)])
	}
	if u.Count() != len(want) {
		t.Errorf("%s: Count %d, want %d", what, u.Count(), len(want))
	}
	for i, class := range want {
		if !u.Same(class...) {
			t.Errorf("%s: Same(%v ..) is false", what, class[:min(len(class), 20)])
		}
		for _, n := range class {
			if u.Head(n) != class[0] {
				t.Errorf("%s: Head(%d) is %d, want %d", what, n, u.Head(n), class[0])
				return
			}
		}
		if i > 0 && u.Same(class[len(class)-1], want[i-1][0]) {
			t.Errorf("%s: Same of two classes' numbers is true", what)
		}
	}
}

// alone are the numbers of a union of n, each in a class of its own.
func alone(n int) [][]int {
	classes := make([][]int, n)
	for i := range classes {
		classes[i] = []int{i}
	}
	return classes
}

func TestExample(t *testing.T) {
	u := made(t, 4)
	if !u.Join(3, 1) {
		t.Error("P2.2: Join(3, 1) is false")
	}
	if u.Head(3) != 1 {
		t.Errorf("P2.1: Head(3) is %d", u.Head(3))
	}
	wantClasses(t, "the example", u, []int{0}, []int{1, 3}, []int{2})
}

func TestNew(t *testing.T) {
	for _, n := range []int{0, 1, 2, 7, 1000, most - 1, most} {
		wantClasses(t, "P2.1: New", made(t, n), alone(n)...)
	}
}

func TestNewOfTooFewOrTooMany(t *testing.T) {
	for _, n := range []int{-1, -2, -most, math.MinInt, most + 1, most + 2, 1 << 20, 1 << 32, 1<<32 + 3, math.MaxInt} {
		if u, err := union.New(n); u != nil || err != api.ErrArg {
			t.Errorf("P2.1: New(%d): %v, %v", n, u, err)
		}
	}
}

func TestNoNumbers(t *testing.T) {
	u := made(t, 0)
	for _, n := range append(outside(0), 0) {
		if u.Head(n) != -1 || u.Same(n) || u.Join(n) || u.Join(n, n) {
			t.Errorf("P2.1: a union without numbers has %d", n)
		}
	}
	if !u.Same() || u.Join() || u.Count() != 0 || len(u.Classes()) != 0 {
		t.Error("P2.1: a union without numbers")
	}
}

func TestHead(t *testing.T) {
	u := made(t, 10)
	u.Join(9, 4)
	u.Join(7, 9)
	u.Join(8, 2)
	for n, want := range []int{0, 1, 2, 3, 4, 5, 6, 4, 2, 4} {
		if got := u.Head(n); got != want {
			t.Errorf("P2.1: Head(%d) is %d, want %d", n, got, want)
		}
	}
	for _, n := range outside(10) {
		if got := u.Head(n); got != -1 {
			t.Errorf("P2.1: Head(%d) is %d", n, got)
		}
	}
	u.Join(8, 7)
	if u.Head(9) != 2 || u.Head(4) != 2 || u.Head(7) != 2 || u.Head(2) != 2 {
		t.Error("P2.1: a class's head isn't its least number behind another Join")
	}
}

func TestSame(t *testing.T) {
	u := made(t, 6)
	u.Join(1, 3, 5)
	for _, list := range [][]int{nil, {}, {0}, {5}, {2, 2}, {1, 3}, {5, 1}, {5, 3, 1}, {3, 3, 5, 1, 3}} {
		if !u.Same(list...) {
			t.Errorf("P2.1: Same(%v) is false", list)
		}
	}
	for _, list := range [][]int{{0, 1}, {1, 0}, {1, 3, 0}, {0, 1, 3}, {1, 0, 3}, {1, 3, 5, 4}, {0, 2, 4}} {
		if u.Same(list...) {
			t.Errorf("P2.1: Same(%v) is true", list)
		}
	}
	for _, n := range outside(6) {
		for _, list := range [][]int{{n}, {n, n}, {1, n}, {n, 1}, {1, 3, n}, {1, n, 3}, {n, 1, 3}} {
			if u.Same(list...) {
				t.Errorf("P2.1: Same(%v) is true", list)
			}
		}
	}
}

func TestJoin(t *testing.T) {
	u := made(t, 8)
	steps := []struct {
		list    []int
		changed bool
		classes [][]int
	}{
		{nil, false, alone(8)},
		{[]int{}, false, alone(8)},
		{[]int{4}, false, alone(8)},
		{[]int{4, 4}, false, alone(8)},
		{[]int{7, 5}, true, [][]int{{0}, {1}, {2}, {3}, {4}, {5, 7}, {6}}},
		{[]int{5, 7}, false, [][]int{{0}, {1}, {2}, {3}, {4}, {5, 7}, {6}}},
		{[]int{6, 2, 4}, true, [][]int{{0}, {1}, {2, 4, 6}, {3}, {5, 7}}},
		{[]int{5, 7, 5, 3}, true, [][]int{{0}, {1}, {2, 4, 6}, {3, 5, 7}}},
		{[]int{0, 6, 6, 0}, true, [][]int{{0, 2, 4, 6}, {1}, {3, 5, 7}}},
		{[]int{2, 4, 6, 0}, false, [][]int{{0, 2, 4, 6}, {1}, {3, 5, 7}}},
		{[]int{7, 6}, true, [][]int{{0, 2, 3, 4, 5, 6, 7}, {1}}},
		{[]int{1, 1, 5}, true, [][]int{{0, 1, 2, 3, 4, 5, 6, 7}}},
		{[]int{7, 6, 5, 4, 3, 2, 1, 0}, false, [][]int{{0, 1, 2, 3, 4, 5, 6, 7}}},
	}
	for _, s := range steps {
		if got := u.Join(s.list...); got != s.changed {
			t.Errorf("P2.2: Join(%v) is %v", s.list, got)
		}
		wantClasses(t, "P2.2: behind Join", u, s.classes...)
	}
}

func TestJoinOfSeveralClassesAtOnce(t *testing.T) {
	u := made(t, 9)
	u.Join(1, 2)
	u.Join(3, 4)
	u.Join(5, 6)
	if !u.Join(6, 8, 4, 2) {
		t.Error("P2.2: Join of several classes is false")
	}
	wantClasses(t, "P2.2: several classes", u, []int{0}, []int{1, 2, 3, 4, 5, 6, 8}, []int{7})
}

func TestJoinOfWhatIsNoNumber(t *testing.T) {
	u := made(t, 5)
	u.Join(4, 2)
	for _, n := range outside(5) {
		for _, list := range [][]int{{n}, {n, n}, {0, n}, {n, 0}, {0, 1, n}, {0, n, 1}, {n, 0, 1}, {3, 4, 1, 0, n}} {
			if u.Join(list...) {
				t.Errorf("P2.2: Join(%v) is true", list)
			}
		}
	}
	wantClasses(t, "P2.2: behind those that are no numbers", u, []int{0}, []int{1}, []int{2, 4}, []int{3})
}

// permute hands each order of a list to do.
func permute(list [][]int, from int, do func([][]int)) {
	if from == len(list) {
		do(list)
	}
	for i := from; i < len(list); i++ {
		list[from], list[i] = list[i], list[from]
		permute(list, from+1, do)
		list[from], list[i] = list[i], list[from]
	}
}

func TestOrderOfJoinsDoesNotMatter(t *testing.T) {
	joins := [][]int{{9, 1}, {1, 5}, {8, 5}, {2, 7}, {7, 4, 6}, {0}}
	turned := [][]int{{1, 9}, {5, 1}, {5, 8}, {7, 2}, {6, 4, 7}, {0, 0}}
	want := [][]int{{0}, {1, 5, 8, 9}, {2, 4, 6, 7}, {3}}
	for _, list := range [][][]int{joins, turned} {
		permute(list, 0, func(list [][]int) {
			quiet, asked := made(t, 10), made(t, 10)
			for _, join := range list {
				quiet.Join(join...)
				asked.Join(join...)
				for n := range 10 {
					asked.Head(9 - n)
				}
				asked.Same(9, 8, 7)
				asked.Classes()
			}
			wantClasses(t, "P2.3: joined in some order", quiet, want...)
			wantClasses(t, "P2.3: asked between joins", asked, want...)
		})
	}
}

func TestAllOfTheMost(t *testing.T) {
	all := make([]int, most)
	for n := range all {
		all[n] = n
	}
	falling := slices.Clone(all)
	slices.Reverse(falling)
	rise, fall, together, back := made(t, most), made(t, most), made(t, most), made(t, most)
	for n := range most - 1 {
		if !rise.Join(n, n+1) || !fall.Join(most-1-n, most-2-n) {
			t.Fatal("P2.2: a Join of two classes is false")
		}
	}
	if !together.Join(all...) || !back.Join(falling...) {
		t.Error("P2.2: Join of all is false")
	}
	for _, u := range []*union.Union{rise, fall, together, back} {
		wantClasses(t, "P2.3: all", u, all)
		if u.Join(falling...) || u.Same(append(falling, most)...) {
			t.Error("P2.2: all joined already")
		}
	}
}

func TestUnionsStandAlone(t *testing.T) {
	a, b := made(t, 5), made(t, 5)
	a.Join(4, 0)
	b.Join(1, 2)
	wantClasses(t, "one union", a, []int{0, 4}, []int{1}, []int{2}, []int{3})
	wantClasses(t, "another one", b, []int{0}, []int{1, 2}, []int{3}, []int{4})
}

func TestWhatIsHandedInIsNeitherChangedNorKept(t *testing.T) {
	u := made(t, 6)
	room := []int{5, 3, 5, 1, 0, 2, 4}
	ahead := slices.Clone(room)
	u.Join(room[:4]...)
	u.Same(room[:4]...)
	u.Classes()
	if !slices.Equal(room, ahead) {
		t.Errorf("what Join was handed is %v now", room)
	}
	room[0], room[1] = 0, 2
	wantClasses(t, "behind a change of what Join was handed", u, []int{0}, []int{1, 3, 5}, []int{2}, []int{4})
}

func TestAnswersAreNewMemory(t *testing.T) {
	u := made(t, 7)
	u.Join(1, 4, 6)
	u.Join(2, 5)
	want := [][]int{{0}, {1, 4, 6}, {2, 5}, {3}}
	changed, kept := u.Classes(), u.Classes()
	u.Join(0, 3)
	for i := range changed {
		_ = append(changed[i], 70, 71, 72, 73)
	}
	if !slices.EqualFunc(changed, want, slices.Equal[[]int]) {
		t.Errorf("P2.3: two lists of one answer share memory: %v", changed)
	}
	for i := range changed {
		for j := range changed[i] {
			changed[i][j] = 99
		}
		changed[i] = nil
	}
	if !slices.EqualFunc(kept, want, slices.Equal[[]int]) {
		t.Errorf("P2.3: another answer is %v now", kept)
	}
	wantClasses(t, "P2.3: behind a change of an answer", u, []int{0, 3}, []int{1, 4, 6}, []int{2, 5})
}

// TestOthersDoNotPanic: of unions that New didn't answer nothing is promised but this.
func TestOthersDoNotPanic(t *testing.T) {
	for _, u := range []*union.Union{nil, {}} {
		u.Join()
		u.Join(0, 1)
		u.Head(0)
		u.Same()
		u.Same(0, 1)
		u.Classes()
		u.Count()
	}
}
