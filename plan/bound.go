package plan

import (
	"math"
	"slices"

	"accidence/api"
	"accidence/gram"
)

// Bound is how many steps it takes at most to go through so many terminals, by a plan that is clean.
func (p *Plan) Bound(n int) int {
	if p.isEmpty() {
		return 0
	}
	each := p.each()
	n = max(n, 0)
	if n >= math.MaxInt/each {
		return math.MaxInt
	}
	return (n + 1) * each
}

// each is how many steps it takes at most for each terminal, and for the end.
//
// What was replaced on the way is a tree whose leaves are the terminals that were passed, and where one is; but for what vanished. It branches less often than it has leaves. Where it doesn't branch, no variable stands twice one below the other, as one that did would begin with itself, which none does if the plan is clean. So it has fewer than twice as many such ways as leaves, of as many variables at most as there are. What vanished stands beside these, fewer at each than a rule has symbols.
func (p *Plan) each() int {
	wide := 0
	for _, r := range p.g.Rules {
		wide = max(wide, len(r.Right)-1)
	}
	return 1 + 2*len(p.g.Vars)*(1+wide*min(p.longest, api.MaxWide))
}

// longest is in how many steps variables vanish at most: of one that may in more than one way, by one of these. (A variable that is decided vanishes in one way.) It ends above MaxWide.
func longest(g api.Grammar) int {
	steps := make([]int, len(g.Vars))
	for more := true; more; {
		more = false
	rules:
		for _, r := range g.Rules {
			if steps[r.Left] > 0 {
				continue
			}
			all := 1
			for _, s := range r.Right {
				if !gram.IsVar(s) || steps[s] == 0 {
					continue rules
				}
				all = min(all+steps[s], api.MaxWide+1)
			}
			steps[r.Left], more = all, true
		}
	}
	return slices.Max(steps)
}
