package deriv

import (
	"slices"

	"accidence/api"
	"accidence/gram"
)

// Replay is a form behind some steps; or which step can't be done, and why.
func Replay(g api.Grammar, form, rules []int) ([]int, int, api.Errno) {
	if len(rules) > api.MaxSteps {
		return nil, 0, api.ErrMany
	}
	p := begin(form)
	for i, rule := range rules {
		if e := refusal(g, p.first(), rule); e != api.OK {
			return nil, i, e
		}
		p.replace(g.Rules[rule].Right)
	}
	return p.form(), 0, api.OK
}

// parts is a form on its way, in two parts, so that a step needn't move the whole of it: terminals that stay, and what is behind them, from its end.
type parts struct {
	done, todo []int
}

// begin is a form's parts.
func begin(form []int) parts {
	var p parts
	p.put(form)
	return p
}

// put puts symbols ahead of all that isn't done.
func (p *parts) put(symbols []int) {
	for _, s := range slices.Backward(symbols) {
		p.todo = append(p.todo, s)
	}
}

// first is the form's first variable; -1: it has none.
func (p *parts) first() int {
	for len(p.todo) > 0 {
		s := p.todo[len(p.todo)-1]
		if gram.IsVar(s) {
			return s
		}
		p.done = append(p.done, s)
		p.todo = p.todo[:len(p.todo)-1]
	}
	return -1
}

// replace puts symbols in the place of the first variable, which stands next.
func (p *parts) replace(symbols []int) {
	p.todo = p.todo[:len(p.todo)-1]
	p.put(symbols)
}

// form is the form whose parts these are.
func (p *parts) form() []int {
	slices.Reverse(p.todo)
	return slices.Concat(p.done, p.todo)
}
