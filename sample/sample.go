// Package sample makes what the layers' tests try their calls on. No layer calls it.
package sample

import (
	"math"
	"slices"
	"strconv"
	"strings"

	"accidence/api"
	"accidence/first"
	"accidence/gram"
	"accidence/strs"
	"accidence/table"
	"accidence/useful"
)

// Roll is numbers that look like chance, and are the same each time.
type Roll uint64

// Of is a number from 0 on, below n.
func (r *Roll) Of(n int) int {
	*r = *r*6364136223846793005 + 1442695040888963407
	return int(uint64(*r) >> 33 % uint64(n))
}

// One is one of some texts.
func (r *Roll) One(texts ...string) string { return texts[r.Of(len(texts))] }

// Symbol is one of a grammar's symbols.
func (r *Roll) Symbol(g api.Grammar) int { return r.Of(len(g.Vars)+len(g.Terms)) - len(g.Terms) }

// Grammar is a right grammar of up to four variables and three terminals.
func (r *Roll) Grammar() api.Grammar {
	for {
		g := api.Grammar{Terms: []string{"a", "b", "c"}[:r.Of(4)], Vars: []string{"s", "t", "u", "v"}[:1+r.Of(4)]}
		for v := range g.Vars {
			for range 1 + r.Of(3) {
				right := make([]int, r.Of(4))
				for i := range right {
					right[i] = r.Symbol(g)
				}
				g.Rules = append(g.Rules, api.Rule{Left: v, Right: right, Weight: float64(r.Of(9)) / 2})
			}
		}
		if gram.Right(g) {
			return g
		}
	}
}

// Useful is what is of use of a right grammar of up to four variables and three terminals.
func (r *Roll) Useful() api.Grammar {
	for {
		if g, _, ok := useful.Reduce(r.Grammar()); ok {
			return g
		}
	}
}

// Finite is what is of use of a grammar of chance whose variables lead only to those behind them.
func (r *Roll) Finite() api.Grammar {
	for {
		g := r.Grammar()
		for _, rule := range g.Rules {
			for i, s := range rule.Right {
				if s >= 0 && s <= rule.Left {
					rule.Right[i] = ^0
					if rule.Left+1 < len(g.Vars) && r.Of(3) > 0 {
						rule.Right[i] = rule.Left + 1
					}
				}
			}
		}
		if !gram.Right(g) {
			continue
		}
		if less, _, ok := useful.Reduce(g); ok {
			return less
		}
	}
}

// Great is a right grammar of up to as many variables and rules as there may be, some of which lead nowhere.
func (r *Roll) Great() api.Grammar {
	for {
		g := api.Grammar{Terms: []string{"a", "b", "c", "d", "e"}[:r.Of(6)]}
		for v := range 1 + r.Of(api.MaxVars) {
			g.Vars = append(g.Vars, Name(v))
		}
		most := 1 + r.Of(4)
		for v := range g.Vars {
			for range 1 + r.Of(most) {
				g.Rules = append(g.Rules, api.Rule{Left: v, Right: r.form(g), Weight: float64(r.Of(9)) / 2})
			}
		}
		g.Rules = slices.CompactFunc(g.Rules, func(a, b api.Rule) bool { return a.Left == b.Left && slices.Equal(a.Right, b.Right) })
		if gram.Right(g) {
			return g
		}
	}
}

// Name is a variable's name, another one for each number.
func Name(v int) string { return "v" + strconv.Itoa(v) }

// Doubled is the text of variables v0, v1 and so on, each of which is so many times the next one, and something, and the last of which is a text of alternatives.
func Doubled(n, times int, and, last string) string {
	var b strings.Builder
	for v := range n - 1 {
		b.WriteString(Name(v) + " =" + strings.Repeat(" "+Name(v+1), times) + and + " ; ")
	}
	return b.String() + Name(n-1) + " = " + last + " ;"
}

// Renamed is a grammar with other variables' names, and other weights.
func Renamed(g api.Grammar) api.Grammar {
	h := api.Grammar{Terms: g.Terms}
	for v := range g.Vars {
		h.Vars = append(h.Vars, Name(v))
	}
	for _, rule := range g.Rules {
		h.Rules = append(h.Rules, api.Rule{Left: rule.Left, Right: rule.Right, Weight: math.NaN()})
	}
	return h
}

// form is symbols of a grammar, mostly few, and as many terminals as variables, if it has some.
func (r *Roll) form(g api.Grammar) []int {
	form := make([]int, r.Of(6))
	if r.Of(50) == 0 {
		form = make([]int, r.Of(api.MaxRight+1))
	}
	for i := range form {
		form[i] = r.Of(len(g.Vars))
		if len(g.Terms) > 0 && r.Of(2) == 0 {
			form[i] = ^r.Of(len(g.Terms))
		}
	}
	return form
}

// Derivation is a derivation of a word from a form, of a grammar all of which is of use: by rules of chance at first, by those of shortest words then.
func (r *Roll) Derivation(g api.Grammar, form []int) []int {
	_, best := useful.Cost(g)
	var rules []int
	todo := slices.Clone(form)
	for free := r.Of(12); len(todo) > 0; {
		s := todo[0]
		todo = todo[1:]
		if s < 0 {
			continue
		}
		rule := best[s]
		if free--; free > 0 {
			lo, hi := gram.Rules(g, s)
			rule = lo + r.Of(hi-lo)
		}
		rules = append(rules, rule)
		todo = append(slices.Clone(g.Rules[rule].Right), todo...)
	}
	return rules
}

// Forms is all forms that are derived from one, by whichever steps, of a grammar that has but so many; none, if there are too many.
func Forms(g api.Grammar, from []int) [][]int {
	known := strs.Of(from)
	for todo := [][]int{from}; len(todo) > 0; {
		form := todo[len(todo)-1]
		todo = todo[:len(todo)-1]
		for at, s := range form {
			if s < 0 {
				continue
			}
			lo, hi := gram.Rules(g, s)
			for _, r := range g.Rules[lo:hi] {
				if next := slices.Concat(form[:at], r.Right, form[at+1:]); known.Add(next) {
					todo = append(todo, next)
				}
			}
		}
		if known.Len() > 3000 {
			return nil
		}
	}
	return known.All()
}

// Tables is the tables of a small grammar all of which is of use, by their K; there is none for 0.
func Tables(g api.Grammar) []*table.Table {
	list := []*table.Table{nil}
	for k := 1; k <= api.MaxK; k++ {
		s, ok := first.Of(g, k, api.MaxBudget)
		if !ok {
			panic("no sets: " + gram.Print(g))
		}
		list = append(list, table.Of(g, s))
	}
	return list
}

// Wild is numbers that a call may be handed, most of which number nothing.
func Wild() []int { return []int{math.MinInt, -65, -1, 0, 1, 64, math.MaxInt} }

// Odd is grammars that a call may be handed, most of which aren't right, or not all of use.
func Odd() []api.Grammar {
	list := []api.Grammar{{}, {Vars: []string{"s"}}, {Rules: []api.Rule{{Left: 0}}}, Load("s = s ;"), Load("s = 'a' t | ; t = t 'b' ; u = u u | s ;")}
	for _, a := range Wild() {
		for _, b := range Wild() {
			rules := []api.Rule{{Left: a, Right: []int{b}}, {Left: b, Right: []int{a, b}}, {Left: 0}, {Left: a}, {Left: 0, Right: []int{a, b, ^0}}}
			list = append(list, api.Grammar{Vars: []string{"s", "t"}, Rules: rules}, api.Grammar{Vars: []string{"s", "t"}, Rules: rules[:4]}, api.Grammar{Vars: []string{"s", "t"}, Terms: []string{"b", "a"}, Rules: rules[:2]})
		}
	}
	return list
}

// Load is the grammar of a text, which is one.
func Load(s string) api.Grammar {
	g, f := gram.Load(s)
	if f != (api.Fault{}) {
		panic("no grammar: " + s)
	}
	return g
}
