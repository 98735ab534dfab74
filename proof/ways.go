package proof

import (
	"iter"
	"slices"

	"accidence/api"
	"accidence/gram"
	"accidence/meter"
)

// far is more steps than a derivation may have: what takes so many isn't found.
const far = api.MaxSteps + 1

// row is in how few steps one comes on from each place of a lookahead.
type row [api.MaxK + 1]int

// way is in how few steps a variable becomes a part of a lookahead, and by which rule first.
type way struct{ steps, rule int }

// parts is the ways to all parts of a lookahead, from each place to each one.
type parts [api.MaxK + 1][api.MaxK + 1]way

// ways is how symbols become the parts of a lookahead.
type ways struct {
	g     api.Grammar
	look  []int
	comes map[int]*parts
}

// newWays is the ways to a lookahead. If it is open, it is a word's beginning, and whatever comes behind its end is passed there; else it is a whole word.
func newWays(g api.Grammar, look []int, open bool, m *meter.Meter) *ways {
	w := &ways{g: g, look: look, comes: map[int]*parts{}}
	for v := range g.Vars {
		w.comes[v] = noParts()
	}
	for t := range g.Terms {
		p := noParts()
		for at, n := range look {
			if n == t {
				p[at][at+1].steps = 0
			}
		}
		if open {
			p[len(look)][len(look)].steps = 0
		}
		w.comes[^t] = p
	}
	// Variables mostly lead to those behind them, so that the last rules are known first.
	settle(g, slices.Backward(g.Rules), m, w.learn)
	return w
}

// settle goes through a grammar's rules, again and again, till of none of them anything new is told, and spends one for each. Rules of no variable are left out.
func settle(g api.Grammar, rules iter.Seq2[int, api.Rule], m *meter.Meter, isNew func(rule int, r api.Rule) bool) {
	for more := true; more; {
		more = false
		for i, r := range rules {
			if !isVarOf(g, r.Left) {
				continue
			}
			m.Spend(1)
			if isNew(i, r) {
				more = true
			}
		}
	}
}

// learn looks whether a rule leads to parts of the lookahead in fewer steps than others do.
func (w *ways) learn(rule int, r api.Rule) bool {
	more := false
	w.beginnings(func(end int) {
		on := upTo(end)
		for _, s := range slices.Backward(r.Right) {
			on = w.through(s, on)
		}
		for from, steps := range on {
			if own := &w.comes[r.Left][from][end]; steps+1 < own.steps {
				*own, more = way{steps + 1, rule}, true
			}
		}
	})
	return more
}

// beginnings goes through all beginnings of the lookahead, by how many terminals they have.
func (w *ways) beginnings(use func(end int)) {
	for end := range len(w.look) + 1 {
		use(end)
	}
}

// through is in how few steps one comes on from each place through a symbol, and then from where that ends.
func (w *ways) through(s int, on row) row {
	all := nowhere()
	p := w.comes[s]
	if p == nil {
		return all
	}
	for from := range all {
		for to := from; to < len(on); to++ {
			all[from] = min(all[from], p[from][to].steps+on[to])
		}
	}
	return all
}

// walk is the places between a form's symbols, from one place on, by which one comes on in the fewest steps, and how many these are; none, if they are too many.
func (w *ways) walk(form []int, from int, on row) ([]int, int) {
	rows := make([]row, len(form)+1)
	rows[len(form)] = on
	for i, s := range slices.Backward(form) {
		rows[i] = w.through(s, rows[i+1])
	}
	steps := rows[0][from]
	if steps >= far {
		return nil, far
	}
	places := []int{from}
	for i, s := range form {
		at := places[i]
		to := at
		for w.comes[s][at][to].steps+rows[i+1][to] > rows[i][at] {
			to++
		}
		places = append(places, to)
	}
	return places, steps
}

// become is some steps, and those by which each symbol of a form becomes the part of the lookahead between its places.
func (w *ways) become(rules, form, places []int) []int {
	for i, s := range form {
		if !gram.IsVar(s) {
			continue
		}
		rule := w.comes[s][places[i]][places[i+1]].rule
		right := w.g.Rules[rule].Right
		inner, _ := w.walk(right, places[i], upTo(places[i+1]))
		rules = w.become(append(rules, rule), right, inner)
	}
	return rules
}

// nowhere is the row of no way on.
func nowhere() row {
	var on row
	for at := range on {
		on[at] = far
	}
	return on
}

// upTo is the row of what ends at a place.
func upTo(end int) row {
	on := nowhere()
	on[end] = 0
	return on
}

// noParts is no ways.
func noParts() *parts {
	p := &parts{}
	for from := range p {
		for to := range p[from] {
			p[from][to] = way{steps: far, rule: -1}
		}
	}
	return p
}

// isVarOf tells whether a grammar has a variable.
func isVarOf(g api.Grammar, v int) bool { return gram.IsVar(v) && v < len(g.Vars) }
