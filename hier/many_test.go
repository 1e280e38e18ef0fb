package hier_test

import (
	"slices"
	"strconv"
	"testing"

	"winnower/api"
)

// chain are classes that each have the next one above them, by how far its number is off.
func chain(n, step int) []api.Class {
	classes := make([]api.Class, n)
	for i := range classes {
		classes[i].Name = strconv.Itoa(i)
		if next := i + step; next >= 0 && next < n {
			classes[i].Super = strconv.Itoa(next)
		}
	}
	return classes
}

// numbers are those below n, rising.
func numbers(n int) []int {
	list := make([]int, n)
	for i := range list {
		list[i] = i
	}
	return list
}

func TestLongWaysUp(t *testing.T) {
	const n = 1 << 16
	rising, falling := numbers(n), numbers(n)
	slices.Reverse(falling)
	up := made(t, placed(chain(n, 1)...))
	wantOrder(t, "a long way up", up, falling...)
	wantAbove(t, up, []int{0}, rising...)
	wantAbove(t, up, []int{n - 1, n - 3}, n-3, n-2, n-1)
	down := made(t, placed(chain(n, -1)...))
	wantOrder(t, "a long way down", down, rising...)
	wantAbove(t, down, []int{n - 1}, rising...)
}

// TestLongWaysUpToRounds: each class has a long way up, and the one that is above itself is the last one but one.
func TestLongWaysUpToRounds(t *testing.T) {
	const n = 1 << 16
	classes := chain(n, 1)
	classes[n-1].Super = strconv.Itoa(n - 2)
	wantFault(t, "a round at a way's end", placed(classes...), n-2)
	classes[n-1].Super = "0"
	wantFault(t, "a round of all", placed(classes...), 0)
	classes[n-1].Super = strconv.Itoa(n - 1)
	wantFault(t, "one above itself at a way's end", placed(classes...), n-1)
}

// TestLongWayBetweenRounds: all but the last three stand between two rounds.
func TestLongWayBetweenRounds(t *testing.T) {
	const n = 1 << 16
	classes := chain(n, 1)
	for i := range classes {
		classes[i].Face = true
		if classes[i].Super != "" {
			classes[i].Faces = []string{classes[i].Super}
		}
		classes[i].Super = ""
	}
	classes[n-3].Faces = []string{strconv.Itoa(n - 3)}
	classes[n-2].Faces = []string{strconv.Itoa(n - 1), "0"}
	classes[n-1].Faces = []string{strconv.Itoa(n - 2)}
	wantFault(t, "a long way between rounds", placed(classes...), n-3)
}

func TestManyRightAbove(t *testing.T) {
	const n = 1 << 16
	classes := make([]api.Class, n)
	faces := make([]string, n-1)
	for i := range classes {
		classes[i] = face(strconv.Itoa(i))
		if i > 0 {
			faces[i-1] = classes[i].Name
		}
	}
	slices.Reverse(faces)
	classes[0].Faces = faces
	x := made(t, placed(classes...))
	right := numbers(n)[1:]
	wantAbove(t, x, []int{0}, numbers(n)...)
	wantOrder(t, "many right above one", x, append(slices.Clone(right), 0)...)
	slices.Reverse(right)
	if got := x.Right(0); !slices.Equal(got, right) {
		t.Errorf("P8.1: Right of one with many above it: %d", len(got))
	}
	classes[0].Faces = append(faces, "5")
	wantFault(t, "many right above one, one of them twice", placed(classes...), 0)
}

// TestMoreThanASetHolds: package ints' sets end at 2^20; a table has no end.
func TestMoreThanASetHolds(t *testing.T) {
	const n = 1<<20 + 40
	classes := make([]api.Class, n)
	for i := range classes {
		classes[i].Name = strconv.Itoa(i)
	}
	for i := n - 30; i < n; i++ {
		classes[i].Super = strconv.Itoa(i - 30)
	}
	classes[3].Super = strconv.Itoa(n - 1)
	classes[n-31].Super = "5"
	x := made(t, placed(classes...))
	wantAbove(t, x, []int{3, n, 2 * n}, 3, 5, n-31, n-1)
	wantAbove(t, x, []int{n - 2, n - 1, n - 2}, 5, n-32, n-31, n-2, n-1)
	order := x.Order()
	want := slices.Delete(numbers(n), 3, 4)
	if len(order) != n || order[n-1] != 3 || !slices.Equal(order[:n-1], want) {
		t.Errorf("P8.2: Order of more than 2^20")
	}
	classes[5].Super = strconv.Itoa(n - 1)
	wantFault(t, "a round on both sides of 2^20", placed(classes...), 5)
}
