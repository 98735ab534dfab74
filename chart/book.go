package chart

import (
	"slices"

	"accidence/api"
	"accidence/gram"
	"accidence/useful"
)

// book is what is known of a grammar's rules.
type book struct {
	g api.Grammar
	// Of each variable how long its shortest words are, and those of its rules by which it becomes some.
	cost  []int
	rules [][]int
}

// newBook is what is known of a grammar's rules.
func newBook(g api.Grammar) *book {
	b := &book{g: g, rules: make([][]int, len(g.Vars))}
	b.cost, _ = useful.Cost(g)
	words := useful.Productive(g)
	fails := func(s int) bool { return gram.IsVar(s) && !(b.isVar(s) && words[s]) }
	for i, r := range g.Rules {
		if b.isVar(r.Left) && !slices.ContainsFunc(r.Right, fails) {
			b.rules[r.Left] = append(b.rules[r.Left], i)
		}
	}
	return b
}

// isVar tells whether a symbol is one of the grammar's variables.
func (b *book) isVar(s int) bool { return gram.IsVar(s) && s < len(b.g.Vars) }

// vanishes tells whether a symbol is a variable that becomes the empty word.
func (b *book) vanishes(s int) bool { return b.isVar(s) && b.cost[s] == 0 }

// right is the symbols of an item's rule that aren't passed.
func (b *book) right(i item) []int { return b.g.Rules[i.rule].Right[i.dot:] }

// left is the variable of an item's rule.
func (b *book) left(i item) int { return b.g.Rules[i.rule].Left }

// shortest is how many terminals some symbols become at least; useful.Far, if these are as many, or more.
func (b *book) shortest(form []int) int {
	all := 0
	for _, s := range form {
		if gram.IsVar(s) {
			all = add(all, b.cost[s])
		} else {
			all = add(all, 1)
		}
	}
	return all
}

// add is a sum that ends at useful.Far.
func add(a, b int) int {
	if b >= useful.Far-a {
		return useful.Far
	}
	return a + b
}
