package deriv_test

import (
	"math"
	"slices"
	"testing"

	"accidence/api"
	"accidence/deriv"
	"accidence/edge"
	"accidence/sample"
)

// pairs is a grammar of as many a as b, with c and a second variable at the end of some words.
func pairs() api.Grammar {
	return sample.Load("s = 'a' s 'b' | %2 | %1.5 t s ; t = %-1 'c' | s ;")
}

// P7.1: the terminals ahead of the first variable, and its place.
func TestLead(t *testing.T) {
	for _, c := range []struct {
		form, word []int
		at         int
	}{
		{nil, nil, -1}, {[]int{}, nil, -1},
		{[]int{0}, nil, 0}, {[]int{^0}, []int{0}, -1}, {[]int{^3, ^0, ^3}, []int{3, 0, 3}, -1},
		{[]int{^2, ^1, 5, ^0, 0}, []int{2, 1}, 2}, {[]int{7, ^1}, nil, 0}, {[]int{^1, 0}, []int{1}, 1},
		// Symbols that no grammar has.
		{[]int{math.MinInt, math.MaxInt}, []int{math.MaxInt}, 1}, {[]int{^64, ^1000, 64}, []int{64, 1000}, 2},
	} {
		if word, at := deriv.Lead(c.form); !slices.Equal(word, c.word) || at != c.at {
			t.Errorf("Lead(%v): %v, %d, want %v, %d", c.form, word, at, c.word, c.at)
		}
	}
}

// P7.1: a step puts a rule's symbols in the place of the first variable, and of nothing else.
func TestStep(t *testing.T) {
	g := pairs()
	for _, c := range []struct {
		form []int
		rule int
		want []int
		e    api.Errno
	}{
		{[]int{0}, 0, []int{^0, 0, ^1}, 0}, {[]int{0}, 1, nil, 0}, {[]int{0}, 2, []int{1, 0}, 0},
		{[]int{^0, 0, 0, 1, ^1}, 1, []int{^0, 0, 1, ^1}, 0}, {[]int{^1, ^1, 1, 0, ^2}, 3, []int{^1, ^1, ^2, 0, ^2}, 0},
		{[]int{^0, 1}, 4, []int{^0, 0}, 0},
		// No such rule, whatever the form is.
		{[]int{0}, 5, nil, api.ErrRule}, {[]int{0}, -1, nil, api.ErrRule}, {nil, 5, nil, api.ErrRule}, {[]int{^0}, -1, nil, api.ErrRule},
		{[]int{1}, math.MaxInt, nil, api.ErrRule}, {[]int{1}, math.MinInt, nil, api.ErrRule},
		// No variable.
		{nil, 0, nil, api.ErrEnd}, {[]int{^0, ^1}, 4, nil, api.ErrEnd}, {[]int{^99, math.MinInt}, 0, nil, api.ErrEnd},
		// Another variable, though the rule's own stands behind.
		{[]int{1, 0}, 0, nil, api.ErrVar}, {[]int{^0, 0, 1}, 3, nil, api.ErrVar}, {[]int{2, 0}, 0, nil, api.ErrVar}, {[]int{math.MaxInt}, 4, nil, api.ErrVar},
		// Symbols that the grammar hasn't stay where they are.
		{[]int{^99, 0, 99}, 0, []int{^99, ^0, 0, ^1, 99}, 0},
	} {
		if got, e := deriv.Step(g, c.form, c.rule); !slices.Equal(got, c.want) || e != c.e {
			t.Errorf("Step(%v, %d): %v, %d, want %v, %d", c.form, c.rule, got, e, c.want, c.e)
		}
	}
}

// P7.1: the form behind a derivation, or the first step that can't be done.
func TestReplay(t *testing.T) {
	g := pairs()
	for _, c := range []struct {
		form, rules, want []int
		at                int
		e                 api.Errno
	}{
		{[]int{0}, []int{0, 0, 1}, []int{^0, ^0, ^1, ^1}, 0, 0},
		{[]int{0}, nil, []int{0}, 0, 0}, {nil, nil, nil, 0, 0}, {[]int{^5, 7, ^6}, []int{}, []int{^5, 7, ^6}, 0, 0},
		{[]int{0, 1}, []int{2, 4, 0}, []int{^0, 0, ^1, 0, 1}, 0, 0},
		{[]int{0}, []int{0, 1, 1}, nil, 2, api.ErrEnd}, {nil, []int{0}, nil, 0, api.ErrEnd},
		{[]int{0}, []int{2, 0}, nil, 1, api.ErrVar}, {[]int{1}, []int{0, 9}, nil, 0, api.ErrVar},
		{[]int{0}, []int{0, 1, 5}, nil, 2, api.ErrRule}, {[]int{0}, []int{-1, 5}, nil, 0, api.ErrRule}, {[]int{0}, []int{0, 3, 9}, nil, 1, api.ErrVar},
	} {
		got, at, e := deriv.Replay(g, c.form, c.rules)
		if !slices.Equal(got, c.want) || at != c.at || e != c.e {
			t.Errorf("Replay(%v, %v): %v, %d, %d, want %v, %d, %d", c.form, c.rules, got, at, e, c.want, c.at, c.e)
		}
	}
}

// P7.1: as many steps as there may be, and one more.
func TestMostSteps(t *testing.T) {
	g := sample.Load("s = s 'a' " + "s 's' s 's' s 's' s 's' s 's' s 's' s 's' s 's' s 's' s 's' s 's' | 'b' s | 'c' ;")
	for _, rule := range []int{0, 1} {
		rules := slices.Repeat([]int{rule}, api.MaxSteps)
		form, at, e := deriv.Replay(g, []int{0}, rules)
		if want := 1 + api.MaxSteps*(len(g.Rules[rule].Right)-1); len(form) != want || at != 0 || e != api.OK {
			t.Errorf("%d symbols, want %d; %d, %d", len(form), want, at, e)
		}
		for _, more := range []int{0, 1, 9, -1} {
			many := append(slices.Clone(rules), more)
			if form, at, e := deriv.Replay(g, []int{0}, many); len(form) != 0 || at != 0 || e != api.ErrMany {
				t.Errorf("%d symbols, %d, %d", len(form), at, e)
			}
			if word, e := deriv.Yield(g, []int{0}, many); len(word) != 0 || e != api.ErrMany {
				t.Errorf("%d terminals, %d", len(word), e)
			}
		}
		// A step that can't be done stands behind the place of too many.
		many := slices.Repeat([]int{rule}, api.MaxSteps+1)
		many[1] = 9
		if _, at, e := deriv.Replay(g, []int{0}, many); at != 0 || e != api.ErrMany {
			t.Errorf("%d, %d", at, e)
		}
	}
	rules := append(slices.Repeat([]int{1}, api.MaxSteps-1), 2)
	if word, e := deriv.Yield(g, []int{0}, rules); len(word) != api.MaxSteps || e != api.OK {
		t.Errorf("%d terminals, %d", len(word), e)
	}
}

// P7.1: the word of a derivation, or Replay's error, or that a variable is left.
func TestYield(t *testing.T) {
	g := pairs()
	for _, c := range []struct {
		form, rules, want []int
		e                 api.Errno
	}{
		{[]int{0}, []int{0, 0, 1}, []int{0, 0, 1, 1}, 0}, {[]int{0}, []int{1}, nil, 0}, {nil, nil, nil, 0}, {[]int{^4, ^0}, nil, []int{4, 0}, 0},
		{[]int{^2, 1, 0, ^2}, []int{3, 1}, []int{2, 2, 2}, 0},
		{[]int{0}, nil, nil, api.ErrEnd}, {[]int{0, 0}, []int{1}, nil, api.ErrEnd}, {[]int{^0, 99}, nil, nil, api.ErrEnd}, {[]int{0}, []int{1, 1}, nil, api.ErrEnd},
		{[]int{0}, []int{0, 5}, nil, api.ErrRule}, {[]int{0, 0}, []int{3}, nil, api.ErrVar},
	} {
		if got, e := deriv.Yield(g, c.form, c.rules); !slices.Equal(got, c.want) || e != c.e {
			t.Errorf("Yield(%v, %v): %v, %d, want %v, %d", c.form, c.rules, got, e, c.want, c.e)
		}
	}
}

// P7.1: weights are added up in order, from the first one on; numbers of no rules count for nothing.
func TestWeight(t *testing.T) {
	below := math.Copysign(0, -1)
	g := sample.Load("s = %0.1 | %0.2 'a' | %0.3 'b' | %inf 'c' | %-inf 'd' | %nan 'e' | %-0 'f' | 'g' | %999999999 'h' | %-999999999 'i' ;")
	for _, c := range []struct {
		rules []int
		want  float64
	}{
		{nil, 0}, {[]int{10, -1, math.MinInt, math.MaxInt}, 0}, {[]int{0}, 0.1}, {[]int{7}, 0},
		{[]int{0, 1, 2}, sum(0.1, 0.2, 0.3)}, {[]int{2, 1, 0}, sum(0.3, 0.2, 0.1)}, {[]int{-1, 1, 99, 1}, 0.4},
		{[]int{8, 0, 9}, sum(999999999, 0.1, -999999999)}, {[]int{0, 8, 9}, sum(0.1, 999999999, -999999999)},
		{[]int{3, 0}, math.Inf(1)}, {[]int{3, 4}, math.NaN()}, {[]int{4, 4}, math.Inf(-1)}, {[]int{0, 5}, math.NaN()},
		{[]int{6}, below}, {[]int{6, 6}, below}, {[]int{10, 6}, below}, {[]int{6, 7}, 0},
	} {
		if got := deriv.Weight(g, c.rules); !edge.Same(got, c.want) {
			t.Errorf("Weight(%v): %v, want %v", c.rules, got, c.want)
		}
	}
	// More rules than a derivation may have.
	if got := deriv.Weight(g, slices.Repeat([]int{8}, 5000)); got != 999999999*5000 {
		t.Errorf("%v", got)
	}
}

// sum is numbers added up, one by one.
func sum(list ...float64) float64 {
	all := list[0]
	for _, f := range list[1:] {
		all += f
	}
	return all
}
