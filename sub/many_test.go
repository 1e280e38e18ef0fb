package sub_test

import (
	"slices"
	"strconv"
	"testing"

	"winnower/api"
)

// chain are classes that each have the next one above them, by how far its number is off.
func chain(n, step int) []api.Class {
	classes := make([]api.Class, n)
	for i := range classes {
		classes[i].Name = strconv.Itoa(i)
		if next := i + step; next >= 0 && next < n {
			classes[i].Super = strconv.Itoa(next)
		}
	}
	return classes
}

// named are the names of numbers from one on, below another one.
func named(from, to int) []string {
	list := make([]string, 0, to-from)
	for i := from; i < to; i++ {
		list = append(list, strconv.Itoa(i))
	}
	return list
}

func TestLongWaysUp(t *testing.T) {
	const n = 1 << 16
	last, middle := strconv.Itoa(n-1), strconv.Itoa(n/2)
	up := made(t, chain(n, 1)...)
	wantBelow(t, up, "0", last, true)
	wantBelow(t, up, last, "0", false)
	wantBelow(t, up, "0[]", last+"[]", false)
	wantUnder(t, up, last, named(0, n)...)
	wantUnder(t, up, middle, named(0, n/2+1)...)
	down := made(t, chain(n, -1)...)
	wantBelow(t, down, last, "0", true)
	wantBelow(t, down, "0", last, false)
	wantUnder(t, down, "0", named(0, n)...)
	wantUnder(t, down, middle, named(n/2, n)...)
}

func TestManyRightAbove(t *testing.T) {
	const n = 1 << 16
	classes := make([]api.Class, n)
	for i := range classes {
		classes[i] = face(strconv.Itoa(i))
	}
	classes[0] = class("0", "", named(1, n)...)
	x := made(t, classes...)
	for _, i := range []int{1, 2, n / 2, n - 1} {
		wantBelow(t, x, "0", strconv.Itoa(i), true)
		wantBelow(t, x, strconv.Itoa(i), "0", false)
		wantUnder(t, x, strconv.Itoa(i), "0")
	}
}

// TestMoreThanASetHolds: package ints' sets end at 2^20; types have no end.
func TestMoreThanASetHolds(t *testing.T) {
	const n = 1<<20 + 10
	classes := make([]api.Class, n)
	for i := range classes {
		classes[i].Name = strconv.Itoa(i)
	}
	last := strconv.Itoa(n - 1)
	classes[n-1].Super = "7"
	classes[3].Super = last
	classes[n-2].Super = last
	x := made(t, classes...)
	wantBelow(t, x, "3", "7", true)
	wantBelow(t, x, "3", last, true)
	wantBelow(t, x, strconv.Itoa(n-2), "7", true)
	wantBelow(t, x, "7", last, false)
	wantUnder(t, x, "7", "3", "7", strconv.Itoa(n-2), last)
	wantUnder(t, x, last, "3", strconv.Itoa(n-2), last)
	wantKind(t, x, last+"[]", kind{is: true, ref: true, array: true, elem: last})
}

// TestLongTexts: no text is too long to be asked for.
func TestLongTexts(t *testing.T) {
	long := string(slices.Repeat([]byte("A[]"), 1<<16))
	x := made(t, class("A", ""), class("B", "A"))
	wantKind(t, x, long, kind{})
	wantBelow(t, x, long, long, false)
	wantBelow(t, x, "null", long, false)
	wantUnder(t, x, long)
}
