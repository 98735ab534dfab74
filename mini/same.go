package mini

import "accidence/dfa"

// Same tells whether two automata do the same.
func Same(a, b dfa.Dfa) bool {
	if !Right(a) || !Right(b) || len(a.Next[0]) != len(b.Next[0]) {
		return false
	}
	h := newHeld(len(a.Next), len(b.Next))
	h.hold([2]int{0, 0})
	for len(h.todo) > 0 {
		pair := h.todo[len(h.todo)-1]
		h.todo = h.todo[:len(h.todo)-1]
		if a.Rule[pair[0]] != b.Rule[pair[1]] {
			return false
		}
		other := b.Next[pair[1]]
		for i, to := range a.Next[pair[0]] {
			if !h.hold([2]int{to, other[i]}) {
				return false
			}
		}
	}
	return true
}

// held is which states of two automata are held to do the same, and the pairs of these that are to be looked at. Whatever follows from others is no pair by itself: so there are no more of them than states, though there may be far more pairs of states that do the same.
type held struct {
	// Of each state one that does the same, or itself; those of the second automaton stand behind those of the first one.
	like []int
	from int
	todo [][2]int
}

// newHeld is none that are held to do the same, of two automata of so many states.
func newHeld(a, b int) *held {
	h := &held{like: make([]int, a+b), from: a}
	for state := range h.like {
		h.like[state] = state
	}
	return h
}

// hold holds that two states do the same; false: one is none, the other one isn't.
func (h *held) hold(pair [2]int) bool {
	if pair == [2]int{nowhere, nowhere} {
		return true
	}
	if pair[0] == nowhere || pair[1] == nowhere {
		return false
	}
	a, b := h.root(pair[0]), h.root(h.from+pair[1])
	if a != b {
		h.like[a] = b
		h.todo = append(h.todo, pair)
	}
	return true
}

// root is the state that stands for all that are held to do the same as one.
func (h *held) root(state int) int {
	for h.like[state] != state {
		// Each second step is left out the next time, so that ways stay short.
		h.like[state] = h.like[h.like[state]]
		state = h.like[state]
	}
	return state
}
