// Package sample makes what the layers' tests try their calls on. No layer calls it.
package sample

import (
	"slices"
	"strconv"

	"accidence/api"
	"accidence/gram"
	"accidence/useful"
)

// Roll is numbers that look like chance, and are the same each time.
type Roll uint64

// Of is a number from 0 on, below n.
func (r *Roll) Of(n int) int {
	*r = *r*6364136223846793005 + 1442695040888963407
	return int(uint64(*r) >> 33 % uint64(n))
}

// One is one of some texts.
func (r *Roll) One(texts ...string) string { return texts[r.Of(len(texts))] }

// Symbol is one of a grammar's symbols.
func (r *Roll) Symbol(g api.Grammar) int { return r.Of(len(g.Vars)+len(g.Terms)) - len(g.Terms) }

// Grammar is a right grammar of up to four variables and three terminals.
func (r *Roll) Grammar() api.Grammar {
	for {
		g := api.Grammar{Terms: []string{"a", "b", "c"}[:r.Of(4)], Vars: []string{"s", "t", "u", "v"}[:1+r.Of(4)]}
		for v := range g.Vars {
			for range 1 + r.Of(3) {
				right := make([]int, r.Of(4))
				for i := range right {
					right[i] = r.Symbol(g)
				}
				g.Rules = append(g.Rules, api.Rule{Left: v, Right: right, Weight: float64(r.Of(9)) / 2})
			}
		}
		if gram.Right(g) {
			return g
		}
	}
}

// Useful is what is of use of a right grammar of up to four variables and three terminals.
func (r *Roll) Useful() api.Grammar {
	for {
		if g, _, ok := useful.Reduce(r.Grammar()); ok {
			return g
		}
	}
}

// Great is a right grammar of up to as many variables and rules as there may be, some of which lead nowhere.
func (r *Roll) Great() api.Grammar {
	for {
		g := api.Grammar{Terms: []string{"a", "b", "c", "d", "e"}[:r.Of(6)]}
		for v := range 1 + r.Of(api.MaxVars) {
			g.Vars = append(g.Vars, Name(v))
		}
		most := 1 + r.Of(4)
		for v := range g.Vars {
			for range 1 + r.Of(most) {
				g.Rules = append(g.Rules, api.Rule{Left: v, Right: r.form(g), Weight: float64(r.Of(9)) / 2})
			}
		}
		g.Rules = slices.CompactFunc(g.Rules, func(a, b api.Rule) bool { return a.Left == b.Left && slices.Equal(a.Right, b.Right) })
		if gram.Right(g) {
			return g
		}
	}
}

// Name is a variable's name, another one for each number.
func Name(v int) string { return "v" + strconv.Itoa(v) }

// form is symbols of a grammar, mostly few, and as many terminals as variables, if it has some.
func (r *Roll) form(g api.Grammar) []int {
	form := make([]int, r.Of(6))
	if r.Of(50) == 0 {
		form = make([]int, r.Of(api.MaxRight+1))
	}
	for i := range form {
		form[i] = r.Of(len(g.Vars))
		if len(g.Terms) > 0 && r.Of(2) == 0 {
			form[i] = ^r.Of(len(g.Terms))
		}
	}
	return form
}

// Load is the grammar of a text, which is one.
func Load(s string) api.Grammar {
	g, f := gram.Load(s)
	if f != (api.Fault{}) {
		panic("no grammar: " + s)
	}
	return g
}
