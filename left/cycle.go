package left

import (
	"slices"

	"accidence/api"
	"accidence/useful"
)

// move is how a derivation comes to a form that begins with a variable: last by a rule, whose symbols up to a place vanish then; and of how many steps it is in all.
type move struct {
	rule, at, steps int
}

// Cycle is a derivation from a variable to a form that begins with it; false: there is none, or it has too many steps.
func Cycle(g api.Grammar, v int) ([]int, bool) {
	if !isVarOf(g, v) {
		return nil, false
	}
	gone := vanishings(g)
	moves := fewest(g, v, gone)
	if moves[v].steps > api.MaxSteps {
		return nil, false
	}
	// From the last move back to the first one, which is by a rule of v.
	path := []move{moves[v]}
	for u := g.Rules[moves[v].rule].Left; u != v; u = g.Rules[moves[u].rule].Left {
		path = append(path, moves[u])
	}
	var rules []int
	for _, m := range slices.Backward(path) {
		rules = append(rules, m.rule)
		for _, s := range g.Rules[m.rule].Right[:m.at] {
			rules = append(rules, gone[s]...)
		}
	}
	return rules, true
}

// vanishings is, of each variable, a derivation of the empty word; none, if there is none, or it has too many steps.
func vanishings(g api.Grammar) [][]int {
	gone := make([][]int, len(g.Vars))
	for v, empty := range useful.Nullable(g) {
		if empty {
			gone[v], _ = useful.Shortest(g, v)
		}
	}
	return gone
}

// fewest is, of each variable, the last move of a derivation from v, of one step or more, but as few as may be, to a form that begins with it; one of too many steps, if there is none.
func fewest(g api.Grammar, v int, gone [][]int) []move {
	moves := slices.Repeat([]move{{steps: api.MaxSteps + 1}}, len(g.Vars))
	vanishes := func(u int) bool { return len(gone[u]) > 0 }
	for more := true; more; {
		more = false
		for i, r := range g.Rules {
			if !isVarOf(g, r.Left) {
				continue
			}
			m := move{rule: i, steps: 1}
			if r.Left != v {
				m.steps += moves[r.Left].steps
			}
			for at, s := range leads(g, r.Right, vanishes) {
				m.at = at
				if m.steps < moves[s].steps {
					moves[s], more = m, true
				}
				m.steps += len(gone[s])
			}
		}
	}
	return moves
}
