package tree_test

import (
	"slices"
	"strings"
	"testing"

	"accidence/api"
	"accidence/deriv"
	"accidence/gram"
	"accidence/sample"
	"accidence/tree"
)

// equal tells whether two trees are the same, node by node.
func equal(a, b *tree.Node) bool {
	if a.Sym != b.Sym || a.Rule != b.Rule || len(a.Kids) != len(b.Kids) {
		return false
	}
	for i := range a.Kids {
		if !equal(a.Kids[i], b.Kids[i]) {
			return false
		}
	}
	return true
}

// someGrammar is a right grammar each of whose variables has a rule of terminals alone, which stands first.
func someGrammar(r *sample.Roll) api.Grammar {
	for {
		g := r.Grammar()
		for v := range g.Vars {
			from, _ := gram.Rules(g, v)
			g.Rules[from].Right = slices.DeleteFunc(g.Rules[from].Right, gram.IsVar)
		}
		if gram.Right(g) {
			return g
		}
	}
}

// someTree is a valid tree of a symbol, of not many more nodes than there is room for.
func someTree(r *sample.Roll, g api.Grammar, s int, room *int) *tree.Node {
	*room--
	if !gram.IsVar(s) {
		return node(s, -1)
	}
	from, to := gram.Rules(g, s)
	rule := from
	if *room > 0 {
		rule += r.Of(to - from)
	}
	n := node(s, rule)
	for _, k := range g.Rules[rule].Right {
		n.Kids = append(n.Kids, someTree(r, g, k, room))
	}
	return n
}

// told is a tree's rules, word, size and height, as the chapter tells them.
func told(n *tree.Node) (rules, word []int, size, height int) {
	if n.Sym >= 0 {
		rules = []int{n.Rule}
	} else {
		word = []int{-n.Sym - 1}
	}
	for _, kid := range n.Kids {
		r, w, s, h := told(kid)
		rules, word, size, height = append(rules, r...), append(word, w...), size+s, max(height, h)
	}
	return rules, word, size + 1, height + 1
}

// text is a tree's text, as the chapter tells it.
func text(n *tree.Node, g api.Grammar) string {
	if n.Sym < 0 {
		return "'" + g.Terms[-n.Sym-1] + "'"
	}
	parts := []string{"(" + g.Vars[n.Sym]}
	for _, kid := range n.Kids {
		parts = append(parts, text(kid, g))
	}
	return strings.Join(parts, " ") + ")"
}

// P8.1, P8.2: a tree tells its derivation, and that the tree.
func TestOneAnother(t *testing.T) {
	r := sample.Roll(17)
	great := 0
	for range 10000 {
		g := someGrammar(&r)
		room := r.Of(40)
		v := r.Of(len(g.Vars))
		n := someTree(&r, g, v, &room)
		rules, word, size, height := told(n)
		if got := n.Rules(); !slices.Equal(got, rules) {
			t.Fatalf("%s: rules %v, want %v", text(n, g), got, rules)
		}
		if got := n.Yield(); !slices.Equal(got, word) {
			t.Fatalf("%s: word %v, want %v", text(n, g), got, word)
		}
		if n.Size() != size || n.Height() != height || n.Text(g) != text(n, g) || !n.Valid(g) {
			t.Fatalf("%s: %d, %d, %s, want %d, %d", text(n, g), n.Size(), n.Height(), n.Text(g), size, height)
		}
		if got, e := deriv.Yield(g, []int{v}, rules); e != api.OK || !slices.Equal(got, word) {
			t.Fatalf("%s: %v becomes %v, %d, want %v", text(n, g), rules, got, e, word)
		}
		if o := of(t, g, v, rules...); !equal(o, n) || !o.Same(n) {
			t.Fatalf("%s, want %s", text(o, g), text(n, g))
		}
		if size > 10 {
			great++
		}
	}
	if great < 500 {
		t.Errorf("%d great ones only", great)
	}
}

// P8.2: whatever steps a tree is made of, it tells them again; there is one just if they lead to a word.
func TestOfWhateverSteps(t *testing.T) {
	r := sample.Roll(29)
	seen := map[api.Errno]int{}
	for range 20000 {
		g := someGrammar(&r)
		v := r.Of(len(g.Vars))
		room := r.Of(12)
		rules := someTree(&r, g, v, &room).Rules()
		switch r.Of(4) {
		case 0:
			rules[r.Of(len(rules))] = r.Of(len(g.Rules)+2) - 1
		case 1:
			rules = rules[:r.Of(len(rules))]
		case 2:
			rules = append(rules, r.Of(len(g.Rules)))
		}
		word, e := deriv.Yield(g, []int{v}, rules)
		n, gotE := tree.Of(g, v, rules)
		seen[e]++
		if e != gotE || (n == nil) != (e != api.OK) {
			t.Fatalf("%v, %d, %v: %v, %d, want %d", g, v, rules, n, gotE, e)
		}
		if e == api.OK && (n.Sym != v || !n.Valid(g) || !slices.Equal(n.Rules(), rules) || !slices.Equal(n.Yield(), word)) {
			t.Fatalf("%v, %d, %v: %s", g, v, rules, n.Text(g))
		}
	}
	if seen[api.OK] < 5000 || seen[api.ErrRule] < 500 || seen[api.ErrEnd] < 2000 || seen[api.ErrVar] < 300 {
		t.Errorf("%v", seen)
	}
}

// P8.1: a tree, one of whose nodes is turned, is another one, and valid just if it tells its own derivation.
func TestTurned(t *testing.T) {
	r := sample.Roll(31)
	valid := 0
	for range 20000 {
		g := someGrammar(&r)
		v, room := r.Of(len(g.Vars)), r.Of(20)
		n := someTree(&r, g, v, &room)
		o := of(t, g, v, n.Rules()...)
		turn(&r, g, someNode(&r, o))
		if n.Same(o) != equal(n, o) || o.Same(n) != equal(n, o) {
			t.Fatalf("%v and %v", n, o)
		}
		rules, _, _, _ := told(o)
		again, e := tree.Of(g, o.Sym, rules)
		if want := e == api.OK && equal(again, o); o.Valid(g) != want {
			t.Fatalf("%v: %v, want %v", o, !want, want)
		}
		if o.Valid(g) && !equal(n, o) {
			valid++
		}
	}
	if valid < 200 {
		t.Errorf("%d valid ones only", valid)
	}
}

// someNode is a node of a tree.
func someNode(r *sample.Roll, n *tree.Node) *tree.Node {
	for len(n.Kids) > 0 && r.Of(3) > 0 {
		n = n.Kids[r.Of(len(n.Kids))]
	}
	return n
}

// turn turns something of a node.
func turn(r *sample.Roll, g api.Grammar, n *tree.Node) {
	switch r.Of(6) {
	case 0:
		n.Sym = r.Symbol(g)
	case 1:
		n.Rule = r.Of(len(g.Rules)+2) - 1
	case 2:
		n.Kids = append(n.Kids, leaf(0))
	case 3:
		n.Kids = n.Kids[:len(n.Kids)/2]
	case 4:
		slices.Reverse(n.Kids)
	case 5:
		room := 4
		*n = *someTree(r, g, n.Sym, &room)
	}
}

// Rule 4: trees and lists are new memory, and what is handed in stays.
func TestNewMemory(t *testing.T) {
	g := pairs()
	was := gram.Print(g)
	rules := []int{2, 3, 0, 1, 4, 1}
	n, o := of(t, g, 0, rules...), of(t, g, 0, rules...)
	spoil(n.Rules())
	spoil(n.Yield())
	if !n.Same(o) || !n.Valid(g) || n.Text(g) != o.Text(g) || n.Size() != o.Size() || n.Height() != o.Height() {
		t.Error("a call turns a tree")
	}
	// Each list of kids is memory of its own, with no room behind it that another one has.
	n.Kids = append(n.Kids[:1], leaf(0), leaf(0), leaf(0))
	n.Kids[0].Kids = append(n.Kids[0].Kids, leaf(1), leaf(1))
	if !o.Same(of(t, g, 0, rules...)) || !slices.Equal(rules, []int{2, 3, 0, 1, 4, 1}) || gram.Print(g) != was {
		t.Error("shared memory")
	}
}

// spoil turns all of a list, and what room is behind it.
func spoil(list []int) {
	list = list[:cap(list)]
	for i := range list {
		list[i] = 99
	}
}
