// Package sample makes what the layers' tests try their calls on. No layer calls it.
package sample

import (
	"accidence/api"
	"accidence/gram"
)

// Roll is numbers that look like chance, and are the same each time.
type Roll uint64

// Of is a number from 0 on, below n.
func (r *Roll) Of(n int) int {
	*r = *r*6364136223846793005 + 1442695040888963407
	return int(uint64(*r) >> 33 % uint64(n))
}

// One is one of some texts.
func (r *Roll) One(texts ...string) string { return texts[r.Of(len(texts))] }

// Symbol is one of a grammar's symbols.
func (r *Roll) Symbol(g api.Grammar) int { return r.Of(len(g.Vars)+len(g.Terms)) - len(g.Terms) }

// Grammar is a right grammar of up to four variables and three terminals.
func (r *Roll) Grammar() api.Grammar {
	for {
		g := api.Grammar{Terms: []string{"a", "b", "c"}[:r.Of(4)], Vars: []string{"s", "t", "u", "v"}[:1+r.Of(4)]}
		for v := range g.Vars {
			for range 1 + r.Of(3) {
				right := make([]int, r.Of(4))
				for i := range right {
					right[i] = r.Symbol(g)
				}
				g.Rules = append(g.Rules, api.Rule{Left: v, Right: right, Weight: float64(r.Of(9)) / 2})
			}
		}
		if gram.Right(g) {
			return g
		}
	}
}

// Load is the grammar of a text, which is one.
func Load(s string) api.Grammar {
	g, f := gram.Load(s)
	if f != (api.Fault{}) {
		panic("no grammar: " + s)
	}
	return g
}
