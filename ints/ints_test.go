package ints_test

import (
	"math"
	"slices"
	"testing"

	"winnower/ints"
)

const last = 1<<20 - 1

// outside are numbers that may be in no set.
var outside = []int{-1, -64, -256, -last, math.MinInt, 1 << 20, 1<<20 + 1, 1 << 31, 1 << 32, 1<<32 + 5, 1 << 40, math.MaxInt}

// wantSet holds a set against the numbers that it must have, rising.
func wantSet(t *testing.T, what string, s *ints.Set, want ...int) {
	t.Helper()
	if got := s.List(); !slices.Equal(got, want) {
		t.Errorf("%s: List %v, want %v", what, short(got), short(want))
	}
	if got := s.Len(); got != len(want) {
		t.Errorf("%s: Len %d, want %d", what, got, len(want))
	}
	for _, n := range want {
		if !s.Has(n) {
			t.Errorf("%s: Has(%d) is false", what, n)
			return
		}
	}
}

// wantList holds a list against the one that is wanted.
func wantList(t *testing.T, what string, got []int, want ...int) {
	t.Helper()
	if !slices.Equal(got, want) {
		t.Errorf("%s: %v, want %v", what, short(got), short(want))
	}
}

// short keeps what a failing test tells readable.
func short(list []int) []int {
	return list[:min(len(list), 20)]
}

// upTo are the numbers from 0 to ahead of n, each times step.
func upTo(n, step int) []int {
	list := make([]int, n)
	for i := range list {
		list[i] = i * step
	}
	return list
}

func TestOf(t *testing.T) {
	wantSet(t, "P1.1: none", ints.Of())
	wantSet(t, "P1.1: a nil list", ints.Of([]int(nil)...))
	wantSet(t, "P1.1: an empty list", ints.Of([]int{}...))
	wantSet(t, "P1.1: the example", ints.Of(5, 1, 5), 1, 5)
	wantSet(t, "P1.1: both ends", ints.Of(last, 0), 0, last)
	wantSet(t, "P1.1: falling", ints.Of(900, 700, 500, 300, 100, 3, 2, 1), 1, 2, 3, 100, 300, 500, 700, 900)
	wantSet(t, "P1.1: some that may not be in one", ints.Of(append(slices.Clone(outside), 7, -7, 3)...), 3, 7)
	wantSet(t, "P1.1: none that may be in one", ints.Of(outside...))
}

func TestOfAnswersANewSetEachTime(t *testing.T) {
	a, b := ints.Of(), ints.Of()
	if a == nil || b == nil || a == b {
		t.Fatal("P1.1: Of() answers no set of its own")
	}
	a.Add(1)
	wantSet(t, "P1.3: another empty set", b)
}

func TestAdd(t *testing.T) {
	s := ints.Of()
	for i, n := range []int{255, 256, 0, last, 63, 64, 1, last - 1, 127, 128, 191, 192, 511, 512} {
		if s.Has(n) {
			t.Errorf("P1.1: Has(%d) ahead of Add", n)
		}
		if !s.Add(n) {
			t.Errorf("P1.1: Add(%d) of a new one is false", n)
		}
		if s.Add(n) {
			t.Errorf("P1.1: Add(%d) of an old one is true", n)
		}
		if !s.Has(n) || s.Len() != i+1 {
			t.Errorf("P1.1: behind Add(%d): Has %v, Len %d", n, s.Has(n), s.Len())
		}
	}
	wantSet(t, "P1.1: Add", s, 0, 1, 63, 64, 127, 128, 191, 192, 255, 256, 511, 512, last-1, last)
}

func TestAddOutside(t *testing.T) {
	for _, s := range []*ints.Set{ints.Of(), ints.Of(0, 5, last), ints.Of(upTo(1000, 7)...)} {
		ahead := s.List()
		for _, n := range outside {
			if s.Add(n) {
				t.Errorf("P1.1: Add(%d) is true", n)
			}
			if s.Has(n) {
				t.Errorf("P1.1: Has(%d) is true", n)
			}
		}
		wantSet(t, "P1.1: behind those that may not be in one", s, ahead...)
	}
}

func TestHasOnlyWhatIsThere(t *testing.T) {
	s := ints.Of(1, 64, 256, 100000, last-1)
	for _, n := range []int{0, 2, 63, 65, 255, 257, 512, 99999, 100001, last - 2, last, 1 + 256, 64 + 256} {
		if s.Has(n) {
			t.Errorf("P1.1: Has(%d) is true", n)
		}
	}
}

func TestUnionAndMinus(t *testing.T) {
	cases := []struct {
		what         string
		a, b         []int
		union, minus []int
	}{
		{"both empty", nil, nil, nil, nil},
		{"the first one empty", nil, []int{1, 2}, []int{1, 2}, nil},
		{"the second one empty", []int{1, 2}, nil, []int{1, 2}, []int{1, 2}},
		{"some together", []int{1, 2, 3}, []int{3, 4}, []int{1, 2, 3, 4}, []int{1, 2}},
		{"none together", []int{1, 3}, []int{2, 4}, []int{1, 2, 3, 4}, []int{1, 3}},
		{"the same", []int{0, 300, last}, []int{0, 300, last}, []int{0, 300, last}, nil},
		{"the first one in the second one", []int{7}, []int{6, 7, 8}, []int{6, 7, 8}, nil},
		{"the second one in the first one", []int{6, 7, 8}, []int{7}, []int{6, 7, 8}, []int{6, 8}},
		{"far apart, in turn", []int{0, 10000, 900000}, []int{5000, 500000, last}, []int{0, 5000, 10000, 500000, 900000, last}, []int{0, 10000, 900000}},
		{"all of the second one ahead", []int{9000, 9001}, []int{1, 2}, []int{1, 2, 9000, 9001}, []int{9000, 9001}},
		{"all of the second one behind", []int{1, 2}, []int{9000, 9001}, []int{1, 2, 9000, 9001}, []int{1, 2}},
	}
	for _, c := range cases {
		a, b := ints.Of(c.a...), ints.Of(c.b...)
		wantSet(t, "P1.2: Union, "+c.what, a.Union(b), c.union...)
		wantSet(t, "P1.2: Union, turned round, "+c.what, b.Union(a), c.union...)
		wantSet(t, "P1.2: Minus, "+c.what, a.Minus(b), c.minus...)
		wantSet(t, "P1.3: the first one behind it, "+c.what, a, c.a...)
		wantSet(t, "P1.3: the second one behind it, "+c.what, b, c.b...)
	}
}

func TestMerge(t *testing.T) {
	cases := []struct {
		what         string
		a, b         []int
		fresh, union []int
	}{
		{"the example", []int{1, 2}, []int{2, 3}, []int{3}, []int{1, 2, 3}},
		{"into an empty one", nil, []int{4, 400, 40}, []int{4, 40, 400}, []int{4, 40, 400}},
		{"of an empty one", []int{4}, nil, nil, []int{4}},
		{"of none that is new", []int{1, 2, 3}, []int{1, 3}, nil, []int{1, 2, 3}},
		{"among those that are there", []int{0, 600, last}, []int{599, 601, 300, 0}, []int{300, 599, 601}, []int{0, 300, 599, 600, 601, last}},
		{"ahead of all", []int{5000}, []int{1, 1000}, []int{1, 1000}, []int{1, 1000, 5000}},
		{"behind all", []int{5000}, []int{6000, last}, []int{6000, last}, []int{5000, 6000, last}},
	}
	for _, c := range cases {
		a, b := ints.Of(c.a...), ints.Of(c.b...)
		wantList(t, "P1.2: Merge "+c.what, a.Merge(b), c.fresh...)
		wantSet(t, "P1.2: behind Merge "+c.what, a, c.union...)
		slices.Sort(c.b)
		wantSet(t, "P1.3: what is merged, "+c.what, b, c.b...)
		wantList(t, "P1.2: Merge again, "+c.what, a.Merge(b))
		wantSet(t, "P1.2: behind Merge again, "+c.what, a, c.union...)
	}
}

func TestSameAndMeets(t *testing.T) {
	cases := []struct {
		a, b        []int
		same, meets bool
	}{
		{nil, nil, true, false},
		{nil, []int{0}, false, false},
		{[]int{0}, []int{0}, true, true},
		{[]int{0}, []int{1}, false, false},
		{[]int{0}, []int{256}, false, false},
		{[]int{1, 2}, []int{2, 1, 2}, true, true},
		{[]int{1, 2}, []int{2, 3}, false, true},
		{[]int{1, 2}, []int{1, 2, 3}, false, true},
		{[]int{0, last}, []int{1, last}, false, true},
		{[]int{0, last}, []int{1, last - 1}, false, false},
		{[]int{0, 5000}, []int{0, 6000}, false, true},
	}
	for _, c := range cases {
		a, b := ints.Of(c.a...), ints.Of(c.b...)
		if a.Same(b) != c.same || b.Same(a) != c.same {
			t.Errorf("P1.2: Same of %v and %v isn't %v", c.a, c.b, c.same)
		}
		if a.Meets(b) != c.meets || b.Meets(a) != c.meets {
			t.Errorf("P1.2: Meets of %v and %v isn't %v", c.a, c.b, c.meets)
		}
	}
}

func TestSameWhateverTheWay(t *testing.T) {
	many := ints.Of(upTo(5000, 3)...)
	few := many.Minus(ints.Of(upTo(5000, 3)[1:]...))
	if !few.Same(ints.Of(0)) || !ints.Of(0).Same(few) {
		t.Error("P1.2: Same of a set that had many isn't true")
	}
	if none := many.Minus(many); !none.Same(ints.Of()) || !none.Same(nil) || none.Meets(many) {
		t.Error("P1.2: Same of a set of which all is gone isn't true")
	}
	merged := ints.Of(9999)
	merged.Merge(ints.Of(0))
	if !merged.Same(ints.Of(0, 9999)) || !merged.Same(ints.Of(9999).Union(ints.Of(0))) {
		t.Error("P1.2: Same of a merged set isn't true")
	}
}

func TestNilSet(t *testing.T) {
	var none *ints.Set
	for _, n := range append([]int{0, 1, last}, outside...) {
		if none.Add(n) || none.Has(n) {
			t.Errorf("P1.2: a nil set took %d", n)
		}
	}
	wantSet(t, "P1.2: nil", none)
	wantList(t, "P1.2: Merge of nil", none.Merge(ints.Of(1, 2)))
	wantList(t, "P1.2: Merge of nil and nil", none.Merge(nil))
	wantSet(t, "P1.2: nil behind Merge", none)
	a := ints.Of(1, 1000)
	wantList(t, "P1.2: Merge of a nil set into one", a.Merge(none))
	wantSet(t, "P1.2: Union of nil and a set", none.Union(a), 1, 1000)
	wantSet(t, "P1.2: Union of a set and nil", a.Union(none), 1, 1000)
	wantSet(t, "P1.2: Minus of nil and a set", none.Minus(a))
	wantSet(t, "P1.2: Minus of a set and nil", a.Minus(none), 1, 1000)
	if !none.Same(nil) || !none.Same(ints.Of()) || !ints.Of().Same(none) || none.Same(a) || a.Same(none) {
		t.Error("P1.2: Same of a nil set")
	}
	if none.Meets(nil) || none.Meets(ints.Of()) || none.Meets(a) || a.Meets(none) {
		t.Error("P1.2: Meets of a nil set")
	}
	wantSet(t, "P1.3: the other one", a, 1, 1000)
}

func TestNewSetsOfNilAreSets(t *testing.T) {
	var none *ints.Set
	for what, s := range map[string]*ints.Set{"Union": none.Union(nil), "Minus": none.Minus(nil), "Union with an empty one": none.Union(ints.Of()), "Minus of an empty one": ints.Of().Minus(nil)} {
		if !s.Add(3) {
			t.Errorf("P1.2: %s of nil answers no new set", what)
		}
		wantSet(t, "P1.2: "+what, s, 3)
	}
}

func TestASetWithItself(t *testing.T) {
	for _, list := range [][]int{nil, {0}, {5, 6, last}, upTo(3000, 301)} {
		s := ints.Of(list...)
		wantSet(t, "P1.2: Union with itself", s.Union(s), list...)
		wantSet(t, "P1.2: Minus itself", s.Minus(s))
		wantList(t, "P1.2: Merge of itself", s.Merge(s))
		if !s.Same(s) || s.Meets(s) != (len(list) > 0) {
			t.Error("P1.2: Same, Meets of a set with itself")
		}
		wantSet(t, "P1.3: a set behind calls with itself", s, list...)
	}
}

func TestAllNumbers(t *testing.T) {
	all := upTo(1<<20, 1)
	falling := slices.Clone(all)
	slices.Reverse(falling)
	s := ints.Of(falling...)
	wantSet(t, "P1.3: all", s, all...)
	even, odd := ints.Of(), ints.Of()
	for n := last; n >= 0; n-- {
		if n%2 == 0 {
			even.Add(n)
		} else {
			odd.Add(n)
		}
	}
	if even.Meets(odd) || !even.Union(odd).Same(s) || !s.Minus(even).Same(odd) {
		t.Error("P1.3: even and odd ones")
	}
	wantList(t, "P1.3: Merge of half", even.Merge(odd), odd.List()...)
	if !even.Same(s) || even.Len() != 1<<20 || even.Add(12345) {
		t.Error("P1.3: behind Merge of half")
	}
}

func TestFarApart(t *testing.T) {
	list := upTo(1024, 1024)
	falling := slices.Clone(list)
	slices.Reverse(falling)
	s, between := ints.Of(falling...), ints.Of()
	for _, n := range list {
		between.Add(n + 512)
	}
	wantSet(t, "P1.3: far apart", s, list...)
	if s.Meets(between) || s.Union(between).Len() != 2048 {
		t.Error("P1.3: those between")
	}
	wantList(t, "P1.3: Merge of those between", s.Merge(between), between.List()...)
	wantSet(t, "P1.3: behind Merge of those between", s, upTo(2048, 512)...)
}

func TestWhatIsHandedInIsNotChanged(t *testing.T) {
	room := []int{9, 3, 9, -1, 1 << 20, 3, 77, 78, 79}
	ahead := slices.Clone(room)
	s := ints.Of(room[:6]...)
	s.Add(4)
	s.Merge(ints.Of(1, 2, 100))
	wantList(t, "P1.3: what Of was handed, with its spare room", room, ahead...)
	list := room[:6]
	list[0] = 50
	wantSet(t, "P1.3: a set behind a change of what Of was handed", s, 1, 2, 3, 4, 9, 100)
}

func TestAnswersAreNewMemory(t *testing.T) {
	s, o := ints.Of(1, 2, 300), ints.Of(2, 4)
	list := s.List()
	other := s.List()
	list[0], list[1] = 99, 98
	_ = append(list[:0], 5, 6, 7)
	wantList(t, "P1.3: another list", other, 1, 2, 300)
	wantSet(t, "P1.3: a set behind a change of its list", s, 1, 2, 300)
	fresh := s.Merge(ints.Of(7, 8, 9))
	fresh[0], fresh[1], fresh[2] = 0, 0, 0
	wantSet(t, "P1.3: a set behind a change of what Merge answered", s, 1, 2, 7, 8, 9, 300)
	wantSet(t, "P1.3: another one", o, 2, 4)
}

func TestNewSetsStandAlone(t *testing.T) {
	empty := ints.Of()
	for _, other := range []*ints.Set{nil, empty, ints.Of(2, 4)} {
		s := ints.Of(1, 2, 300)
		union, minus, turned := s.Union(other), s.Minus(other), other.Union(s)
		s.Add(5)
		s.Merge(ints.Of(3, 3000))
		ahead := other.List()
		for _, made := range []*ints.Set{union, minus, turned} {
			if made.Has(5) || made.Has(3) || made.Has(3000) {
				t.Error("P1.3: a new set shares with the one it was made of")
			}
			made.Add(6)
			made.Merge(ints.Of(0, 9000))
		}
		wantSet(t, "P1.3: a set behind changes of new ones", s, 1, 2, 3, 5, 300, 3000)
		wantSet(t, "P1.3: the other one behind changes of new ones", other, ahead...)
	}
}

func TestMergeKeepsNothing(t *testing.T) {
	s, o := ints.Of(), ints.Of(1, 2, 300)
	s.Merge(o)
	s.Add(3)
	o.Add(4)
	o.Merge(ints.Of(301, 900))
	s.Merge(ints.Of(302))
	wantSet(t, "P1.3: what was merged into", s, 1, 2, 3, 300, 302)
	wantSet(t, "P1.3: what was merged", o, 1, 2, 4, 300, 301, 900)
}
