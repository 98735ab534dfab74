package strs_test

import (
	"math"
	"slices"
	"testing"

	"accidence/strs"
)

// words is a list of words without those that are there twice, in order.
func words(list [][]int) [][]int {
	list = slices.Clone(list)
	slices.SortFunc(list, slices.Compare[[]int])
	return slices.CompactFunc(list, slices.Equal[[]int])
}

// same tells whether two lists have the same words in the same order.
func same(a, b [][]int) bool { return slices.EqualFunc(a, b, slices.Equal[[]int]) }

// check holds all that a set tells of itself against some words.
func check(t *testing.T, what string, s *strs.Set, list [][]int) {
	t.Helper()
	want := words(list)
	if got := s.All(); !same(got, want) || s.Len() != len(want) {
		t.Errorf("%s: %d words, %v, want %v", what, s.Len(), got, want)
	}
	for _, a := range want {
		if !s.Has(a) {
			t.Errorf("%s: %v isn't in", what, a)
		}
	}
}

// lists is lists of words of all kinds: none, the empty word, words with unlike beginnings, and numbers at their ends.
func lists() [][][]int {
	list := [][][]int{
		{}, {{}}, {nil, {}}, {{0}}, {{}, {0}}, {{2}, {1, 5}}, {nil, {7}}, {{1}, {2}, {1}}, {{1, 1}, {2}, {3}, {}}, {{1, 2, 3}, {1, 2}, {1}, {1, 2, 4}},
		{{-1}, {0}, {1}}, {{-1, 0}, {}, {0, -1}}, {{5, 5, 5, 5, 5}, {5}, {5, 5, 5}}, {{256}, {1, 0}, {0, 1, 0}}, {{1, 12}, {11, 2}, {112}},
	}
	return append(list, line())
}

// P2.1: a set has the words that were put in, each once, in order.
func TestOf(t *testing.T) {
	for _, list := range lists() {
		check(t, "Of", strs.Of(list...), list)
		turned := slices.Clone(list)
		slices.Reverse(turned)
		check(t, "Of, turned about", strs.Of(append(turned, list...)...), list)
	}
	check(t, "Of none", strs.Of(), nil)
	check(t, "Of a nil list", strs.Of([][]int(nil)...), nil)
	check(t, "Of a nil word", strs.Of(nil), [][]int{{}})
	check(t, "Of one word", strs.Of([]int{3, 1}), [][]int{{3, 1}})
}

func TestAddAndHas(t *testing.T) {
	list := line()
	s := strs.Of()
	for i, a := range list {
		if s.Has(a) {
			t.Errorf("%v is in", a)
		}
		if !s.Add(a) || s.Add(slices.Clone(a)) {
			t.Errorf("Add(%v)", a)
		}
		if !s.Has(slices.Clone(a)) || s.Len() != i+1 {
			t.Errorf("%v isn't in", a)
		}
		for _, b := range list[i+1:] {
			if s.Has(b) {
				t.Errorf("%v is in with %v", b, list[:i+1])
			}
		}
	}
	check(t, "Add", s, list)
	var none strs.Set
	if !none.Add(nil) || none.Add([]int{}) || !none.Has(nil) || !none.Has([]int{}) || none.Len() != 1 {
		t.Error("the empty word")
	}
}

// P2.1: the zero Set has no words, in all of its calls.
func TestZeroSet(t *testing.T) {
	var a, b strs.Set
	some := strs.Of([]int{1}, nil)
	if a.Len() != 0 || len(a.All()) != 0 || a.Has(nil) || a.Has([]int{0}) {
		t.Error("the zero Set has words")
	}
	if !a.Same(&b) || !a.Same(strs.Of()) || !strs.Of().Same(&a) || a.Same(some) || some.Same(&a) || a.Same(strs.Of(nil)) || strs.Of(nil).Same(&a) {
		t.Error("Same of the zero Set")
	}
	if a.Take(&b) != 0 || a.Take(&a) != 0 || some.Take(&a) != 0 || some.Len() != 2 {
		t.Error("Take of the zero Set")
	}
	check(t, "Meet", a.Meet(some), nil)
	check(t, "Meet", some.Meet(&a), nil)
	check(t, "Meet", a.Meet(&a), nil)
	for _, k := range []int{-1, 0, 1, 4} {
		check(t, "Times", a.Times(some, k), nil)
		check(t, "Times", some.Times(&a, k), nil)
		check(t, "Times", a.Times(&b, k), nil)
	}
	if a.Take(some) != 2 || a.Len() != 2 || b.Len() != 0 || !a.Same(some) {
		t.Error("Take into the zero Set")
	}
	made := a.Times(strs.Of(), 1)
	if !made.Add([]int{4}) || !b.Meet(some).Add([]int{4}) || !b.Add([]int{4}) || a.Has([]int{4}) {
		t.Error("Add to what was made of the zero Set")
	}
}

// joined is the words of two lists, each with each, of k numbers at most.
func joined(a, b [][]int, k int) [][]int {
	var list [][]int
	for _, x := range a {
		for _, y := range b {
			word := append(slices.Clone(x), y...)
			list = append(list, word[:min(len(word), max(k, 0))])
		}
	}
	return list
}

// P2.1: the calls of two sets, of each two, and of one with itself.
func TestTwoSets(t *testing.T) {
	for _, a := range lists() {
		for _, b := range lists() {
			s, u := strs.Of(a...), strs.Of(b...)
			for _, k := range []int{math.MinInt, -1, 0, 1, 2, 3, 4, 5, 10, math.MaxInt} {
				check(t, "Times", s.Times(u, k), joined(a, b, k))
			}
			both := slices.DeleteFunc(slices.Clone(a), func(x []int) bool {
				return !slices.ContainsFunc(b, func(y []int) bool { return slices.Equal(x, y) })
			})
			check(t, "Meet", s.Meet(u), both)
			if got, want := s.Same(u), same(words(a), words(b)); got != want {
				t.Errorf("%v Same %v: %v", a, b, got)
			}
			check(t, "the one stays", s, a)
			check(t, "the other one stays", u, b)
			all := append(slices.Clone(a), b...)
			if got, want := s.Take(u), len(words(all))-len(words(a)); got != want {
				t.Errorf("%v Take %v: %d, want %d", a, b, got, want)
			}
			check(t, "Take", s, all)
			check(t, "Take leaves the other one", u, b)
		}
	}
}

func TestOwnCalls(t *testing.T) {
	for _, a := range lists() {
		s := strs.Of(a...)
		for _, k := range []int{-1, 0, 1, 2, 3, 9} {
			check(t, "Times itself", s.Times(s, k), joined(a, a, k))
		}
		check(t, "Meet itself", s.Meet(s), a)
		if !s.Same(s) || s.Take(s) != 0 {
			t.Errorf("%v: Same and Take of itself", a)
		}
		check(t, "what was handed in to itself", s, a)
	}
}

func TestSame(t *testing.T) {
	a, b := strs.Of([]int{1}, []int{2, 3}), strs.Of([]int{2, 3}, []int{1}, []int{1})
	if !a.Same(b) || !b.Same(a) {
		t.Error("sets of the same words, put in otherwise, aren't the same")
	}
	for _, c := range []*strs.Set{strs.Of([]int{1}), strs.Of([]int{1}, []int{2, 3}, nil), strs.Of([]int{1}, []int{3, 2}), strs.Of([]int{1}, []int{2}, []int{3}), strs.Of([]int{1, 2, 3})} {
		if a.Same(c) || c.Same(a) {
			t.Errorf("%v is the same as %v", a.All(), c.All())
		}
	}
}

// The example of the chapter.
func TestTimesOfExample(t *testing.T) {
	s, u := strs.Of([]int{2}, []int{1, 5}), strs.Of(nil, []int{7})
	if got, want := s.Times(u, 2).All(), [][]int{{1, 5}, {2}, {2, 7}}; !same(got, want) {
		t.Errorf("%v, want %v", got, want)
	}
	if got, want := u.Times(s, 2).All(), [][]int{{1, 5}, {2}, {7, 1}, {7, 2}}; !same(got, want) {
		t.Errorf("%v, want %v", got, want)
	}
}

// Rule 4: a set keeps nothing that is handed in, and nothing that is told.
func TestSetsAreNewMemory(t *testing.T) {
	word, list := []int{1, 2}, [][]int{{3}, {4, 5}, nil}
	want := [][]int{{}, {1, 2}, {3}, {4, 5}}
	s := strs.Of(list...)
	s.Add(word)
	word[0], list[0][0], list[1] = 9, 9, []int{9}
	check(t, "what was handed in is turned", s, want)
	told := s.All()
	for i := range told {
		_ = append(told[i], 8, 8)
		for j := range told[i] {
			told[i][j] = 8
		}
	}
	told[0], told[1] = []int{7}, told[2]
	check(t, "what was told is turned", s, want)
	if s.Has([]int{8}) || s.Has([]int{9}) || s.Has([]int{7}) {
		t.Error("words that weren't put in are in")
	}
	told = s.All()
	_ = append(told[1], 8)
	if !same(told, want) {
		t.Errorf("a word that goes on turns others: %v", told)
	}
}

func TestSetsThatAreMadeStandAlone(t *testing.T) {
	a, b := [][]int{{1}, {2}}, [][]int{{}, {2}}
	for i := range 4 {
		s, u := strs.Of(a...), strs.Of(b...)
		made := []func() *strs.Set{
			func() *strs.Set { return s.Meet(u) },
			func() *strs.Set { return s.Meet(s) },
			func() *strs.Set { return s.Times(strs.Of(nil), 4) },
			func() *strs.Set { return strs.Of(nil).Times(s, 4) },
		}[i]()
		was := made.All()
		made.Add([]int{6})
		check(t, "the one", s, a)
		check(t, "the other one", u, b)
		s.Add([]int{7})
		u.Add([]int{7})
		check(t, "what was made", made, append(was, []int{6}))
	}
	s, u := strs.Of(a...), strs.Of()
	u.Take(s)
	u.Add([]int{6})
	check(t, "what was taken from", s, a)
	s.Add([]int{7})
	check(t, "what was taken", u, append([][]int{{6}}, a...))
}

// Sets of many words: what they tell hangs on these alone, not on how they came.
func TestManyWords(t *testing.T) {
	const n = 3000
	s, u := strs.Of(), strs.Of()
	var list [][]int
	for i := range n {
		word := []int{i % 7, i, -i}[:1+i%3]
		if fresh := s.Add(word); fresh {
			list = append(list, word)
		}
	}
	for i := len(list) - 1; i >= 0; i-- {
		u.Add(list[i])
	}
	check(t, "many words", s, list)
	if !s.Same(u) || s.Take(u) != 0 || s.Meet(u).Len() != s.Len() {
		t.Error("many words, put in otherwise")
	}
	check(t, "many words, cut to one number", s.Times(u, 1), [][]int{{0}, {1}, {2}, {3}, {4}, {5}, {6}})
}
