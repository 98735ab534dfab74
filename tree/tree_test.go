package tree_test

import (
	"math"
	"slices"
	"testing"

	"accidence/api"
	"accidence/sample"
	"accidence/tree"
)

// node is a node with kids.
func node(sym, rule int, kids ...*tree.Node) *tree.Node {
	return &tree.Node{Sym: sym, Rule: rule, Kids: kids}
}

// leaf is a terminal's node.
func leaf(term int) *tree.Node { return node(^term, -1) }

// of is the tree of a derivation.
func of(t *testing.T, g api.Grammar, v int, rules ...int) *tree.Node {
	t.Helper()
	n, e := tree.Of(g, v, rules)
	if n == nil || e != api.OK {
		t.Fatalf("Of(%d, %v): %v, %d", v, rules, n, e)
	}
	return n
}

// pairs is a grammar: its rules 0 to 2 are those of s, 3 and 4 those of t.
func pairs() api.Grammar {
	return sample.Load("s = 'a' s 'b' | | t s t ; t = 'c' | s ;")
}

// P8.1: the trees of derivations, node by node.
func TestOf(t *testing.T) {
	g := pairs()
	for _, c := range []struct {
		v     int
		rules []int
		want  *tree.Node
		text  string
	}{
		{0, []int{1}, node(0, 1), "(s)"},
		{0, []int{0, 1}, node(0, 0, leaf(0), node(0, 1), leaf(1)), "(s 'a' (s) 'b')"},
		{1, []int{3}, node(1, 3, leaf(2)), "(t 'c')"},
		{1, []int{4, 1}, node(1, 4, node(0, 1)), "(t (s))"},
		{0, []int{2, 3, 0, 1, 4, 1}, node(0, 2, node(1, 3, leaf(2)), node(0, 0, leaf(0), node(0, 1), leaf(1)), node(1, 4, node(0, 1))), "(s (t 'c') (s 'a' (s) 'b') (t (s)))"},
	} {
		n := of(t, g, c.v, c.rules...)
		if !equal(n, c.want) || !n.Same(c.want) || !c.want.Same(n) || !n.Valid(g) || !c.want.Valid(g) {
			t.Errorf("Of(%d, %v): %s", c.v, c.rules, n.Text(g))
		}
		if n.Text(g) != c.text || c.want.Text(g) != c.text {
			t.Errorf("Of(%d, %v): %s, want %s", c.v, c.rules, n.Text(g), c.text)
		}
	}
}

// P8.1: what is no derivation of a variable to a word has layer 7's error.
func TestOfErrors(t *testing.T) {
	g := pairs()
	for _, c := range []struct {
		v     int
		rules []int
		e     api.Errno
	}{
		{0, nil, api.ErrEnd}, {0, []int{0}, api.ErrEnd}, {0, []int{1, 1}, api.ErrEnd}, {0, []int{2, 3, 1}, api.ErrEnd},
		{0, []int{5}, api.ErrRule}, {0, []int{-1}, api.ErrRule}, {0, []int{0, 1, 5}, api.ErrRule}, {2, []int{7}, api.ErrRule},
		{0, []int{3}, api.ErrVar}, {1, []int{0}, api.ErrVar}, {0, []int{0, 3, 9}, api.ErrVar}, {2, []int{0}, api.ErrVar}, {math.MaxInt, []int{1}, api.ErrVar},
		{2, nil, api.ErrEnd}, {^0, []int{1}, api.ErrEnd},
		{0, append(slices.Repeat([]int{0}, api.MaxSteps), 1), api.ErrMany},
	} {
		if n, e := tree.Of(g, c.v, c.rules); n != nil || e != c.e {
			t.Errorf("Of(%d, %v): %v, %d, want %d", c.v, c.rules[:min(8, len(c.rules))], n, e, c.e)
		}
	}
}

// P8.1: a tree of as many steps as a derivation may have.
func TestGreatest(t *testing.T) {
	g := pairs()
	rules := append(slices.Repeat([]int{0}, api.MaxSteps-1), 1)
	n := of(t, g, 0, rules...)
	if n.Size() != 3*api.MaxSteps-2 || n.Height() != api.MaxSteps || !n.Valid(g) || !slices.Equal(n.Rules(), rules) || len(n.Yield()) != 2*api.MaxSteps-2 {
		t.Errorf("%d, %d", n.Size(), n.Height())
	}
	if want := len("(s)") + (api.MaxSteps-1)*len("(s 'a'  'b')"); len(n.Text(g)) != want {
		t.Errorf("%d bytes, want %d", len(n.Text(g)), want)
	}
	if o := of(t, g, 0, rules...); !n.Same(o) || n.Same(n.Kids[1]) {
		t.Error("Same")
	}
}

// P8.1: rules, words, sizes and heights, of trees that no grammar has, too.
func TestThroughAll(t *testing.T) {
	for i, c := range []struct {
		n            *tree.Node
		rules, word  []int
		size, height int
	}{
		{leaf(3), nil, []int{3}, 1, 1},
		{node(0, 7), []int{7}, nil, 1, 1},
		{node(2, 5, leaf(1), leaf(0), leaf(1)), []int{5}, []int{1, 0, 1}, 4, 2},
		{node(0, 1, node(1, 2, leaf(4), node(0, 3)), leaf(5), node(1, 4, node(2, 5, leaf(6)))), []int{1, 2, 3, 4, 5}, []int{4, 5, 6}, 8, 4},
		{node(0, 1, node(0, 2, node(0, 3, leaf(7))), node(0, 4)), []int{1, 2, 3, 4}, []int{7}, 5, 4},
		{node(0, 1, node(0, 4), node(0, 2, node(0, 3, leaf(7)))), []int{1, 4, 2, 3}, []int{7}, 5, 4},
		{node(0, -1, node(9, -8, leaf(70))), []int{-1, -8}, []int{70}, 3, 3},
	} {
		n := c.n
		if !slices.Equal(n.Rules(), c.rules) || !slices.Equal(n.Yield(), c.word) || n.Size() != c.size || n.Height() != c.height {
			t.Errorf("case %d: %v, %v, %d, %d", i, n.Rules(), n.Yield(), n.Size(), n.Height())
		}
	}
}

// P8.1: a tree is valid just if each of its nodes is.
func TestValid(t *testing.T) {
	g := pairs()
	deep := func() *tree.Node { return of(t, g, 0, 2, 3, 0, 1, 4, 1) }
	if !deep().Valid(g) || !leaf(0).Valid(g) || !leaf(2).Valid(g) || !node(1, 3, leaf(2)).Valid(g) {
		t.Error("valid ones")
	}
	for i, spoil := range []func(n *tree.Node){
		func(n *tree.Node) { n.Rule = 0 }, func(n *tree.Node) { n.Rule = 5 }, func(n *tree.Node) { n.Rule = -1 }, func(n *tree.Node) { n.Sym = 1 },
		func(n *tree.Node) { n.Sym = 2 }, func(n *tree.Node) { n.Sym = ^0 }, func(n *tree.Node) { n.Kids = n.Kids[:2] }, func(n *tree.Node) { n.Kids = nil },
		func(n *tree.Node) { n.Kids = append(n.Kids, node(1, 3, leaf(2))) }, func(n *tree.Node) { n.Kids[1] = nil }, func(n *tree.Node) { n.Kids[2] = nil },
		func(n *tree.Node) { n.Kids = append(n.Kids, nil) }, func(n *tree.Node) { slices.Reverse(n.Kids[:2]) },
		// Far below.
		func(n *tree.Node) { n.Kids[0].Kids[0].Sym = ^0 }, func(n *tree.Node) { n.Kids[0].Kids[0].Rule = 0 }, func(n *tree.Node) { n.Kids[0].Kids[0].Rule = -2 },
		func(n *tree.Node) { n.Kids[0].Kids[0].Kids = []*tree.Node{node(0, 1)} }, func(n *tree.Node) { n.Kids[0].Kids[0].Kids = []*tree.Node{nil} },
		func(n *tree.Node) { n.Kids[1].Kids[1].Rule = 0 }, func(n *tree.Node) { n.Kids[1].Kids[1].Rule = 4 }, func(n *tree.Node) { n.Kids[1].Kids[1].Kids = []*tree.Node{leaf(0)} },
		func(n *tree.Node) { n.Kids[1].Kids[2].Sym = ^2 }, func(n *tree.Node) { n.Kids[2].Kids[0] = nil }, func(n *tree.Node) { n.Kids[2].Kids[0].Kids = []*tree.Node{nil} },
		func(n *tree.Node) { n.Kids[2].Kids[0].Rule = math.MinInt }, func(n *tree.Node) { n.Kids[2].Kids[0].Rule = math.MaxInt }, func(n *tree.Node) { n.Kids[2].Rule = 3 },
	} {
		n := deep()
		if spoil(n); n.Valid(g) {
			t.Errorf("case %d", i)
		}
	}
	// Symbols that the grammar hasn't, alone.
	for _, n := range []*tree.Node{leaf(3), leaf(64), node(math.MinInt, -1), node(2, 1), node(math.MaxInt, 1), node(0, 1, nil), node(^0, 0), node(^0, 1), node(^0, -1, leaf(0))} {
		if n.Valid(g) {
			t.Errorf("%v", n)
		}
	}
}

// P8.1: two trees are the same just if all of their nodes are.
func TestSame(t *testing.T) {
	g := pairs()
	deep := func() *tree.Node { return of(t, g, 0, 2, 3, 0, 1, 4, 1) }
	n := deep()
	if o := deep(); !n.Same(n) || !n.Same(o) || !o.Same(n) || !leaf(1).Same(leaf(1)) || leaf(1).Same(leaf(0)) {
		t.Error("Same")
	}
	for i, turn := range []func(n *tree.Node){
		func(n *tree.Node) { n.Sym = 1 }, func(n *tree.Node) { n.Rule = 1 }, func(n *tree.Node) { n.Kids = n.Kids[:2] }, func(n *tree.Node) { n.Kids = nil }, func(n *tree.Node) { slices.Reverse(n.Kids) },
		func(n *tree.Node) { n.Kids = append(n.Kids, leaf(0)) }, func(n *tree.Node) { n.Kids[0].Kids[0].Sym = ^1 }, func(n *tree.Node) { n.Kids[0].Kids[0].Rule = 0 },
		func(n *tree.Node) { n.Kids[1].Kids[1].Kids = []*tree.Node{leaf(0)} }, func(n *tree.Node) { n.Kids[2].Kids[0].Rule = 2 }, func(n *tree.Node) { n.Kids[2].Kids = nil },
		// The same nodes, one of them somewhere else.
		func(n *tree.Node) { n.Kids[2].Kids[0].Kids, n.Kids[1].Kids = n.Kids[1].Kids, nil },
	} {
		o := deep()
		if turn(o); n.Same(o) || o.Same(n) || !o.Same(o) {
			t.Errorf("case %d", i)
		}
	}
	// A nil list of kids and an empty one are one.
	if !node(0, 1).Same(node(0, 1, []*tree.Node{}...)) || !(&tree.Node{Rule: 1}).Same(&tree.Node{Rule: 1, Kids: []*tree.Node{}}) {
		t.Error("no kids")
	}
}

// P8.1: a text tells names and quotes as layer 6 does.
func TestText(t *testing.T) {
	g := sample.Load("a_1 = ' ' b '(' | ; b = ')' a_1 | c ; c = '|' ;")
	for _, c := range []struct {
		rules []int
		want  string
	}{
		{[]int{1}, "(a_1)"}, {[]int{0, 3, 4}, "(a_1 ' ' (b (c '|')) '(')"}, {[]int{0, 2, 0, 2, 1}, "(a_1 ' ' (b ')' (a_1 ' ' (b ')' (a_1)) '(')) '(')"},
	} {
		if got := of(t, g, 0, c.rules...).Text(g); got != c.want {
			t.Errorf("%v: %s, want %s", c.rules, got, c.want)
		}
	}
	if leaf(0).Text(g) != "' '" || leaf(2).Text(g) != "')'" {
		t.Errorf("%s, %s", leaf(0).Text(g), leaf(2).Text(g))
	}
}

// Rule 1: no call panics, whatever is in a tree.
func TestNoPanic(t *testing.T) {
	wild := sample.Wild()
	for _, g := range []api.Grammar{{}, pairs(), {Rules: []api.Rule{{Left: math.MaxInt, Right: wild}, {Left: -1}}}} {
		for _, s := range wild {
			for _, rule := range wild {
				tree.Of(g, s, []int{rule})
				through(node(s, rule), g)
				through(node(s, rule, leaf(3), nil, node(rule, s)), g)
			}
		}
		through(nil, g)
	}
}

// through makes all calls of a tree.
func through(n *tree.Node, g api.Grammar) {
	n.Rules()
	n.Yield()
	n.Size()
	n.Height()
	n.Valid(g)
	n.Text(g)
	n.Same(n)
	n.Same(nil)
	leaf(0).Same(n)
}
