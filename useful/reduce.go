package useful

import (
	"slices"

	"accidence/api"
)

// Reduce is a grammar without what is of no use, and, of each variable of it, which one that was; false: the start becomes no word.
func Reduce(g api.Grammar) (api.Grammar, []int, bool) {
	use := Useful(g)
	if !marked(use, 0) {
		return api.Grammar{}, nil, false
	}
	rules := rulesOf(g, func(r api.Rule) bool { return marked(use, r.Left) && becomes(r, use) })
	var less api.Grammar
	var were []int
	symbols := map[int]int{}
	for v, name := range g.Vars {
		if use[v] {
			symbols[v] = len(were)
			less.Vars, were = append(less.Vars, name), append(were, v)
		}
	}
	for t, text := range g.Terms {
		if slices.ContainsFunc(rules, func(r api.Rule) bool { return slices.Contains(r.Right, ^t) }) {
			symbols[^t] = ^len(less.Terms)
			less.Terms = append(less.Terms, text)
		}
	}
	for _, r := range rules {
		less.Rules = append(less.Rules, renamed(r, symbols))
	}
	return less, were, true
}

// rulesOf is the rules of which something holds.
func rulesOf(g api.Grammar, holds func(r api.Rule) bool) []api.Rule {
	var list []api.Rule
	for _, r := range g.Rules {
		if holds(r) {
			list = append(list, r)
		}
	}
	return list
}

// renamed is a rule with other numbers for its symbols.
func renamed(r api.Rule, symbols map[int]int) api.Rule {
	right := make([]int, len(r.Right))
	for i, s := range r.Right {
		right[i] = symbols[s]
	}
	return api.Rule{Left: symbols[r.Left], Right: right, Weight: r.Weight}
}
