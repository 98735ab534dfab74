package plan

import (
	"accidence/dfa"
	"accidence/first"
	"accidence/gram"
	"accidence/left"
	"accidence/mini"
	"accidence/table"
)

// decide looks how each variable is decided.
func (p *Plan) decide() {
	for v := range p.g.Vars {
		how := Open
		if from, to := gram.Rules(p.g, v); to-from == 1 {
			how = Single
		}
		p.how = append(p.how, how)
	}
	p.decideByTables()
	p.decideByAutomata()
}

// decideByTables decides variables by terminals, one more at a time, as long as one isn't decided and there are sets for so many.
func (p *Plan) decideByTables() {
	for k := 1; k <= p.limits.K && p.isOpen(); k++ {
		t := p.newTable(k)
		if t == nil {
			return
		}
		p.tables = append(p.tables, t)
		for v, how := range p.how {
			if how == Open && t.Clear(v) {
				p.how[v] = k
			}
		}
	}
}

// newTable is a table that is made anew; nil: there are no sets for so many terminals. (There are some only if there are some for fewer, which never have more words.)
func (p *Plan) newTable(k int) *table.Table {
	sets, ok := first.Of(p.g, k, p.limits.Budget)
	if !ok {
		return nil
	}
	return table.Of(p.g, sets)
}

// decideByAutomata decides what isn't decided by automata, if there are some.
func (p *Plan) decideByAutomata() {
	again := left.Recursive(p.g)
	for v, how := range p.how {
		// A variable that begins with itself is replaced by a rule that leads back to it, and then by another one, ahead of the same terminals. No automaton tells both; looking for one may take long.
		if how != Open || again[v] {
			continue
		}
		if d, ok := dfa.Build(p.g, v, p.limits.Deep, p.limits.Places, p.limits.States); ok {
			p.how[v], p.automata[v] = Looked, mini.Least(d)
		}
	}
}
