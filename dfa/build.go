package dfa

import (
	"slices"
	"strconv"

	"accidence/api"
	"accidence/atn"
)

// Build is the automaton that tells by which rule a variable is to be replaced; false: there is none of so few states, with so few places in each, so deep at most.
func Build(g api.Grammar, v, deep, places, states int) (Dfa, bool) {
	b := &builder{
		net: atn.New(g), terms: len(g.Terms),
		deep: min(deep, api.MaxStack), places: places, states: min(states, api.MaxStates),
		known: map[string]int{}, means: map[int]int{},
	}
	if first, ok := b.state(b.net.Start(v)); !ok || first == nowhere {
		return Dfa{}, false
	}
	// The states that are come to on the way stand behind, so that each is gone on from once.
	for state := 0; state < len(b.sets); state++ {
		if !b.goOn(state) {
			return Dfa{}, false
		}
	}
	return b.made, true
}

// builder is an automaton that is being built.
type builder struct {
	net                  *atn.Net
	terms                int
	deep, places, states int
	// Which state some configurations are, by their key: those that a state has, and those too that were closed to these, so that none are closed twice. No two states have one key, as what is closed is closed to itself.
	known map[string]int
	// Which state means a rule. There is one for all that do.
	means map[int]int
	// Of each state the configurations from which one goes on; none, if it means a rule.
	sets [][]atn.Config
	made Dfa
}

// state is the state of some configurations, when they are closed; nowhere, if there are none. False: they can't be closed, or there are too many states.
func (b *builder) state(list []atn.Config) (int, bool) {
	if len(list) == 0 {
		return nowhere, true
	}
	key := keyOf(list)
	if state, known := b.known[key]; known {
		return state, true
	}
	closed, ok := b.net.Close(list, b.deep, b.places)
	if !ok {
		return nowhere, false
	}
	state, ok := b.closed(closed)
	b.known[key] = state
	return state, ok
}

// closed is the state of configurations that are closed.
func (b *builder) closed(list []atn.Config) (int, bool) {
	switch alts := atn.Alts(list); len(alts) {
	case 0:
		return nowhere, true
	case 1:
		return b.meaning(alts[0])
	}
	key := keyOf(list)
	if state, known := b.known[key]; known {
		return state, true
	}
	state, ok := b.add(none, list)
	b.known[key] = state
	return state, ok
}

// meaning is the state that means a rule.
func (b *builder) meaning(rule int) (int, bool) {
	if state, known := b.means[rule]; known {
		return state, true
	}
	state, ok := b.add(rule, nil)
	b.means[rule] = state
	return state, ok
}

// add is a new state, which leads nowhere so far; false: it is one too many.
func (b *builder) add(rule int, list []atn.Config) (int, bool) {
	state := len(b.sets)
	b.sets = append(b.sets, list)
	b.made.Next = append(b.made.Next, slices.Repeat([]int{nowhere}, b.terms+1))
	b.made.Rule = append(b.made.Rule, rule)
	return state, len(b.sets) <= b.states
}

// goOn lays where each terminal, and the end, leads from a state; false: there is no automaton.
func (b *builder) goOn(state int) bool {
	list, row := b.sets[state], b.made.Next[state]
	b.sets[state] = nil
	for t := range b.terms {
		to, ok := b.state(b.net.Move(list, t))
		if !ok {
			return false
		}
		row[t] = to
	}
	to, ok := b.end(list)
	row[b.terms] = to
	return ok
}

// end is where the end leads from configurations; false: it means more than one rule.
func (b *builder) end(list []atn.Config) (int, bool) {
	var last []atn.Config
	for _, x := range list {
		if b.net.Next(x) == api.End {
			last = append(last, x)
		}
	}
	switch alts := atn.Alts(last); len(alts) {
	case 0:
		return nowhere, true
	case 1:
		return b.meaning(alts[0])
	}
	return nowhere, false
}

// keyOf is configurations as a text, another one for any others.
func keyOf(list []atn.Config) string {
	var key []byte
	for _, x := range list {
		key = appendNumber(appendNumber(key, x.Alt), len(x.Stack))
		key = appendSpot(key, x.Spot)
		for _, spot := range x.Stack {
			key = appendSpot(key, spot)
		}
	}
	return string(key)
}

// appendSpot lays a place behind a key.
func appendSpot(key []byte, x atn.Spot) []byte {
	return appendNumber(appendNumber(key, x.Rule), x.Dot)
}

// appendNumber lays a number behind a key, with what tells it from the next one.
func appendNumber(key []byte, n int) []byte {
	return append(strconv.AppendInt(key, int64(n), 10), ' ')
}
