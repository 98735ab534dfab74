package mini_test

import (
	"math"
	"slices"
	"testing"

	"accidence/dfa"
	"accidence/mini"
	"accidence/sample"
)

// five is the chapter's example: of five states two do the same, and one isn't come to.
func five() dfa.Dfa {
	return dfa.Dfa{Next: [][]int{{3, 1, -1}, {-1, -1, 4}, {0, 1, 3}, {-1, -1, 4}, {-1, -1, -1}}, Rule: []int{-1, -1, -1, -1, 6}}
}

// same tells whether two automata are the same, number by number.
func same(a, b dfa.Dfa) bool {
	return slices.EqualFunc(a.Next, b.Next, slices.Equal[[]int]) && slices.Equal(a.Rule, b.Rule)
}

// clone is an automaton in new memory.
func clone(d dfa.Dfa) dfa.Dfa {
	var c dfa.Dfa
	for _, row := range d.Next {
		c.Next = append(c.Next, slices.Clone(row))
	}
	c.Rule = slices.Clone(d.Rule)
	return c
}

// P16.1: each way in which an automaton may be laid out as none.
func TestRight(t *testing.T) {
	for _, d := range []dfa.Dfa{
		five(), {Next: [][]int{{-1}}, Rule: []int{-1}}, {Next: [][]int{{0}}, Rule: []int{-1}}, {Next: [][]int{{-1}}, Rule: []int{0}}, {Next: [][]int{{-1, -1}}, Rule: []int{math.MaxInt}}, {Next: [][]int{{1, 0}, {1, -1}}, Rule: []int{-1, -1}},
	} {
		if !mini.Right(d) {
			t.Errorf("%v", d)
		}
	}
	for i, turn := range []func(*dfa.Dfa){
		// No state; other many rows than rules.
		func(d *dfa.Dfa) { *d = dfa.Dfa{} }, func(d *dfa.Dfa) { d.Next, d.Rule = [][]int{}, []int{} }, func(d *dfa.Dfa) { d.Next = nil }, func(d *dfa.Dfa) { d.Rule = nil },
		func(d *dfa.Dfa) { d.Rule = d.Rule[:4] }, func(d *dfa.Dfa) { d.Rule = append(d.Rule, -1) }, func(d *dfa.Dfa) { d.Next = append(d.Next, []int{-1, -1, -1}) }, func(d *dfa.Dfa) { d.Next, d.Rule[3] = d.Next[:4], 6 },
		// Rows of other lengths; empty ones.
		func(d *dfa.Dfa) { d.Next[0] = d.Next[0][:2] }, func(d *dfa.Dfa) { d.Next[4] = append(d.Next[4], -1) }, func(d *dfa.Dfa) { d.Next[2] = nil },
		func(d *dfa.Dfa) { d.Next = [][]int{nil, nil, nil, nil, nil} }, func(d *dfa.Dfa) { d.Next = [][]int{{}, {}, {}, {}, {}} }, func(d *dfa.Dfa) { *d = dfa.Dfa{Next: [][]int{{}}, Rule: []int{-1}} }, func(d *dfa.Dfa) { *d = dfa.Dfa{Next: [][]int{{}}, Rule: []int{2}} },
		// Numbers of no state, at whichever place.
		func(d *dfa.Dfa) { d.Next[0][0] = 5 }, func(d *dfa.Dfa) { d.Next[0][2] = 5 }, func(d *dfa.Dfa) { d.Next[2][1] = -2 }, func(d *dfa.Dfa) { d.Next[3][2] = math.MaxInt }, func(d *dfa.Dfa) { d.Next[0][0] = math.MinInt },
		// Rules that are none.
		func(d *dfa.Dfa) { d.Rule[0] = -2 }, func(d *dfa.Dfa) { d.Rule[4] = -2 }, func(d *dfa.Dfa) { d.Rule[2] = math.MinInt },
		// A state that means a rule, and leads somewhere.
		func(d *dfa.Dfa) { d.Rule[0] = 0 }, func(d *dfa.Dfa) { d.Rule[2] = 9 }, func(d *dfa.Dfa) { d.Next[4][0] = 4 }, func(d *dfa.Dfa) { d.Next[4][2] = 0 },
	} {
		d := five()
		turn(&d)
		was := clone(d)
		least := mini.Least(d)
		if mini.Right(d) || mini.Same(d, d) || mini.Same(five(), d) || mini.Same(d, five()) || least.Next != nil || least.Rule != nil {
			t.Errorf("case %d: %v, %v", i, d, least)
		}
		if !same(d, was) {
			t.Errorf("case %d: turned: %v, was %v", i, d, was)
		}
	}
}

// P16.1: as few states as may be, numbered as one comes to them.
func TestLeast(t *testing.T) {
	for _, c := range []struct{ d, want dfa.Dfa }{
		{five(), dfa.Dfa{Next: [][]int{{1, 1, -1}, {-1, -1, 2}, {-1, -1, -1}}, Rule: []int{-1, -1, 6}}},
		// A first state that means a rule.
		{dfa.Dfa{Next: [][]int{{-1}, {0}}, Rule: []int{3, -1}}, dfa.Dfa{Next: [][]int{{-1}}, Rule: []int{3}}},
		// A state that leads nowhere isn't nowhere, nor is one that leads but to itself either of these.
		{dfa.Dfa{Next: [][]int{{1, 2}, {-1, -1}, {2, 2}}, Rule: []int{-1, -1, -1}}, dfa.Dfa{Next: [][]int{{1, 2}, {-1, -1}, {2, 2}}, Rule: []int{-1, -1, -1}}},
		{dfa.Dfa{Next: [][]int{{1, 0}, {0, -1}}, Rule: []int{-1, -1}}, dfa.Dfa{Next: [][]int{{1, 0}, {0, -1}}, Rule: []int{-1, -1}}},
		// Rings of whatever length that mean nothing are one state.
		{dfa.Dfa{Next: [][]int{{1, 4}, {2, 3}, {0, 0}, {4, 1}, {3, 2}}, Rule: []int{-1, -1, -1, -1, -1}}, dfa.Dfa{Next: [][]int{{0, 0}}, Rule: []int{-1}}},
		// States that mean one rule are one; those that mean others, or none, aren't.
		{dfa.Dfa{Next: [][]int{{5, 4, 3, 2, 1}, {-1, -1, -1, -1, -1}, {-1, -1, -1, -1, -1}, {-1, -1, -1, -1, -1}, {-1, -1, -1, -1, -1}, {-1, -1, -1, -1, -1}}, Rule: []int{-1, 2, 0, 2, -1, 7}}, dfa.Dfa{Next: [][]int{{1, 2, 3, 4, 3}, {-1, -1, -1, -1, -1}, {-1, -1, -1, -1, -1}, {-1, -1, -1, -1, -1}, {-1, -1, -1, -1, -1}}, Rule: []int{-1, 7, -1, 2, 0}}},
		// State by state, and not first all behind the first terminal; the end last.
		{dfa.Dfa{Next: [][]int{{3, 1, 4}, {-1, 5, 2}, {-1, -1, -1}, {6, -1, -1}, {-1, -1, -1}, {-1, -1, -1}, {-1, -1, -1}}, Rule: []int{-1, -1, 10, -1, 12, 13, 14}}, dfa.Dfa{Next: [][]int{{1, 2, 3}, {4, -1, -1}, {-1, 5, 6}, {-1, -1, -1}, {-1, -1, -1}, {-1, -1, -1}, {-1, -1, -1}}, Rule: []int{-1, -1, -1, 12, 14, 13, 10}}},
		// Only what is far behind tells the first two states behind the first one apart; where the end leads goes on, too.
		{dfa.Dfa{Next: [][]int{{1, 2}, {3, -1}, {4, -1}, {-1, 5}, {-1, 6}, {-1, -1}, {-1, -1}}, Rule: []int{-1, -1, -1, -1, -1, 8, 9}}, dfa.Dfa{Next: [][]int{{1, 2}, {3, -1}, {4, -1}, {-1, 5}, {-1, 6}, {-1, -1}, {-1, -1}}, Rule: []int{-1, -1, -1, -1, -1, 8, 9}}},
		{dfa.Dfa{Next: [][]int{{1, 2}, {3, -1}, {4, -1}, {-1, 5}, {-1, 6}, {-1, -1}, {-1, -1}}, Rule: []int{-1, -1, -1, -1, -1, 8, 8}}, dfa.Dfa{Next: [][]int{{1, 1}, {2, -1}, {-1, 3}, {-1, -1}}, Rule: []int{-1, -1, -1, 8}}},
	} {
		was := clone(c.d)
		got := mini.Least(c.d)
		if !same(got, c.want) {
			t.Errorf("%v: %v, want %v", c.d, got, c.want)
		}
		if !mini.Same(c.d, got) || !mini.Same(got, c.d) || !mini.Same(c.d, c.d) || !same(mini.Least(got), got) {
			t.Errorf("%v: %v isn't the same", c.d, got)
		}
		if !same(c.d, was) {
			t.Errorf("turned: %v, was %v", c.d, was)
		}
	}
}

// P16.1: what tells two automata apart.
func TestSame(t *testing.T) {
	loop := dfa.Dfa{Next: [][]int{{0, 1}, {-1, -1}}, Rule: []int{-1, 0}}
	for i, c := range []struct {
		a, b dfa.Dfa
		want bool
	}{
		{loop, loop, true},
		{loop, dfa.Dfa{Next: [][]int{{2, 1}, {-1, -1}, {0, 3}, {-1, -1}}, Rule: []int{-1, 0, -1, 0}}, true},
		// Another number of states, some of which aren't come to, and do otherwise.
		{loop, dfa.Dfa{Next: [][]int{{0, 1}, {-1, -1}, {1, 1}}, Rule: []int{-1, 0, -1}}, true},
		// Other rules; none.
		{loop, dfa.Dfa{Next: [][]int{{0, 1}, {-1, -1}}, Rule: []int{-1, 1}}, false}, {loop, dfa.Dfa{Next: [][]int{{0, 1}, {-1, -1}}, Rule: []int{-1, -1}}, false}, {loop, dfa.Dfa{Next: [][]int{{2, 1}, {-1, -1}, {0, 3}, {-1, -1}}, Rule: []int{-1, 0, -1, 1}}, false},
		// Nowhere in one alone, at the first state, or behind it.
		{loop, dfa.Dfa{Next: [][]int{{-1, 1}, {-1, -1}}, Rule: []int{-1, 0}}, false}, {loop, dfa.Dfa{Next: [][]int{{0, -1}}, Rule: []int{-1}}, false}, {loop, dfa.Dfa{Next: [][]int{{2, 1}, {-1, -1}, {-1, 1}}, Rule: []int{-1, 0, -1}}, false}, {loop, dfa.Dfa{Next: [][]int{{2, 1}, {-1, -1}, {2, -1}}, Rule: []int{-1, 0, -1}}, false},
		// Rows of other lengths.
		{dfa.Dfa{Next: [][]int{{-1}}, Rule: []int{3}}, dfa.Dfa{Next: [][]int{{-1, -1}}, Rule: []int{3}}, false}, {dfa.Dfa{Next: [][]int{{-1}}, Rule: []int{3}}, dfa.Dfa{Next: [][]int{{-1}}, Rule: []int{3}}, true},
		{five(), loop, false}, {loop, dfa.Dfa{}, false}, {dfa.Dfa{}, dfa.Dfa{}, false},
		// The first states alone are asked of.
		{dfa.Dfa{Next: [][]int{{1}, {-1}}, Rule: []int{-1, 0}}, dfa.Dfa{Next: [][]int{{-1}, {0}}, Rule: []int{0, -1}}, false},
	} {
		if mini.Same(c.a, c.b) != c.want || mini.Same(c.b, c.a) != c.want {
			t.Errorf("case %d: want %v", i, c.want)
		}
	}
}

// Rule 4: what is told is new memory, and no two lists of it share theirs.
func TestNewMemory(t *testing.T) {
	d := five()
	least := mini.Least(d)
	for at, row := range least.Next {
		row = row[:cap(row)]
		for i := range row {
			row[i] = 99
		}
		for _, other := range append(clone(dfa.Dfa{Next: least.Next[at+1:]}).Next, least.Rule) {
			if slices.Contains(other, 99) {
				t.Fatal("lists share their memory")
			}
		}
	}
	for i := range least.Rule {
		least.Rule[i] = 99
	}
	if !same(d, five()) {
		t.Errorf("turned: %v", d)
	}
	least = mini.Least(d)
	want := clone(least)
	for i, row := range d.Next {
		d.Rule[i] = 99
		for j := range row {
			row[j] = 99
		}
	}
	if !same(least, want) {
		t.Errorf("%v, want %v", least, want)
	}
}

// ring is an automaton of so many states, each of which a terminal leads to the next one, and the last one to the first one; the end leads from the first one alone to a rule.
func ring(n int) dfa.Dfa {
	d := dfa.Dfa{Rule: slices.Repeat([]int{-1}, n+1)}
	d.Rule[n] = 0
	for i := range n {
		d.Next = append(d.Next, []int{(i + 1) % n, -1})
	}
	d.Next[0][1] = n
	d.Next = append(d.Next, []int{-1, -1})
	return d
}

// line is an automaton of so many states, each of which each terminal leads to the next one, the last one to a rule.
func line(n, width int) dfa.Dfa {
	d := dfa.Dfa{Rule: slices.Repeat([]int{-1}, n)}
	d.Rule[n-1] = 0
	for i := range n - 1 {
		d.Next = append(d.Next, slices.Repeat([]int{i + 1}, width))
	}
	d.Next = append(d.Next, slices.Repeat([]int{-1}, width))
	return d
}

// P16.1: great automata, too, of which nobody would wait for whoever goes through them state by state again and again, or pair by pair.
func TestGreat(t *testing.T) {
	for _, c := range []struct {
		d   dfa.Dfa
		all int
	}{{line(100000, 3), 100000}, {line(256, 65), 256}, {ring(100000), 100001}, {ring(131072), 131073}} {
		least := mini.Least(c.d)
		if len(least.Next) != c.all || len(least.Rule) != c.all || !mini.Same(c.d, least) {
			t.Errorf("%d, want %d", len(least.Next), c.all)
		}
	}
	// All pairs of states of both would be far too many.
	one, other := ring(99991), ring(100003)
	if mini.Same(one, other) {
		t.Error("rings of other lengths")
	}
	one.Rule[99991], other.Rule[100003] = -1, -1
	one.Next[0][1], other.Next[0][1] = -1, -1
	if !mini.Same(one, other) || len(mini.Least(one).Next) != 1 || len(mini.Least(other).Next) != 1 {
		t.Error("rings that mean nothing")
	}
}

// Rule 1: no call panics, whatever it is handed.
func TestNoPanic(t *testing.T) {
	wild := append(sample.Wild(), -2, 2)
	var list []dfa.Dfa
	for _, a := range wild {
		for _, b := range wild {
			for _, c := range wild {
				list = append(list, dfa.Dfa{Next: [][]int{{a, b}, {c, -1}}, Rule: []int{-1, -1}}, dfa.Dfa{Next: [][]int{{a, b}, {c}}, Rule: []int{-1, -1}}, dfa.Dfa{Next: [][]int{{a}, {b}, nil}, Rule: []int{c, -1, 0}}, dfa.Dfa{Next: [][]int{{-1}, {c}}, Rule: []int{a, b}}, dfa.Dfa{Next: [][]int{{a, b, c}}, Rule: []int{-1, 0}}, dfa.Dfa{Next: [][]int{{a, b, c}}, Rule: []int{-1}}, dfa.Dfa{Rule: []int{a, b, c}}, dfa.Dfa{Next: [][]int{{a}, {b}, {c}}})
			}
		}
	}
	for i, d := range list {
		right := mini.Right(d)
		if least := mini.Least(d); right != (len(least.Next) > 0) || right != mini.Same(d, d) || right != mini.Same(d, least) {
			t.Errorf("%v: %v, %v", d, right, least)
		}
		mini.Same(d, list[(i*7+3)%len(list)])
	}
}
