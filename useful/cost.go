package useful

import (
	"slices"

	"accidence/api"
)

// Far is what a variable costs that becomes no word, or too long a one.
const Far = 1 << 30

// way is how a symbol becomes a shortest word: of how many terminals, by how many steps, and by which rule first; -1: it is a terminal, or there is no way.
type way struct {
	cost, steps, rule int
}

// Cost is how long the shortest word of each variable is, best by which rule it comes; Far, -1: it becomes none, or too long a one.
func Cost(g api.Grammar) (cost, best []int) {
	for _, w := range ways(g) {
		cost, best = append(cost, w.cost), append(best, w.rule)
	}
	return cost, best
}

// Shortest is a derivation of a shortest word of a variable; false: there is none, or it has too many steps.
func Shortest(g api.Grammar, v int) ([]int, bool) {
	list := ways(g)
	if !isVarOf(g, v) || list[v].steps > api.MaxSteps {
		return nil, false
	}
	var rules []int
	todo := []int{v}
	for len(todo) > 0 {
		s := todo[len(todo)-1]
		todo = todo[:len(todo)-1]
		if isTerm(s) {
			continue
		}
		rules = append(rules, list[s].rule)
		for _, next := range slices.Backward(g.Rules[list[s].rule].Right) {
			todo = append(todo, next)
		}
	}
	return rules, true
}

// ways is the way of each variable.
func ways(g api.Grammar) []way {
	list := slices.Repeat([]way{none()}, len(g.Vars))
	// A way is left only for one that is ahead of it: so those that a way is made of are never made of it, and going on with them ends.
	settle(g, func(i int, r api.Rule) bool {
		w := wayBy(i, r, list)
		if !w.ahead(list[r.Left]) {
			return false
		}
		list[r.Left] = w
		return true
	})
	return list
}

// none is no way: its terminals and steps are too many for any.
func none() way { return way{cost: Far, steps: Far, rule: -1} }

// wayBy is the way by a rule, by those of its symbols as they are so far.
func wayBy(i int, r api.Rule, list []way) way {
	w := way{steps: 1, rule: i}
	for _, s := range r.Right {
		next := wayOf(s, list)
		w.cost, w.steps = add(w.cost, next.cost), add(w.steps, next.steps)
	}
	if w.cost == Far {
		return none()
	}
	return w
}

// wayOf is the way of a symbol.
func wayOf(s int, list []way) way {
	switch {
	case isTerm(s):
		return way{cost: 1, rule: -1}
	case s >= len(list):
		return none()
	}
	return list[s]
}

// add is a sum that ends at Far: what is longer grows too fast for any number.
func add(a, b int) int {
	if b >= Far-a {
		return Far
	}
	return a + b
}

// ahead tells whether a way is better than another one. Of words as short as each other it is the one that comes by fewer steps, so that a derivation has too many of them only if those of all shortest words have.
func (w way) ahead(o way) bool {
	return w.cost < o.cost || w.cost == o.cost && w.steps < o.steps
}
