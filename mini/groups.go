package mini

import (
	"slices"

	"accidence/dfa"
)

// groupsOf is of each state of an automaton the number of its group: those of one group do the same. (Hopcroft's way: a group splits the others by which of their states lead to it; of two parts of a group that did so the smaller one is enough.)
func groupsOf(d dfa.Dfa) []int {
	from := sources(d)
	s := newSplitter(d.Rule)
	for len(s.todo) > 0 {
		group := s.todo[len(s.todo)-1]
		s.todo = s.todo[:len(s.todo)-1]
		s.waits[group] = false
		// The group may itself be split on the way.
		states := slices.Clone(s.states[group])
		for _, column := range from {
			for _, state := range states {
				for _, source := range column[state] {
					s.mark(source)
				}
			}
			s.split()
		}
	}
	return s.group
}

// sources is, of each terminal, and of the end, the states that it leads to each state. Nobody asks what it leads nowhere: in a group that all groups have split that is all states, or none.
func sources(d dfa.Dfa) [][][]int {
	from := make([][][]int, len(d.Next[0]))
	for i := range from {
		from[i] = make([][]int, len(d.Next))
	}
	for state, row := range d.Next {
		for i, to := range row {
			if to != nowhere {
				from[i][to] = append(from[i][to], state)
			}
		}
	}
	return from
}

// splitter is states in groups, which are split till those of one group do the same.
type splitter struct {
	// Of each group its states, of which the last ones are marked, and how many these are.
	states [][]int
	marked []int
	// Of each state its group, and its place there.
	group, at []int
	// The groups of which states are marked.
	touched []int
	// The groups by which others are to be split, and, of each group, whether it is one of these.
	todo  []int
	waits []bool
}

// newSplitter is groups of the states that mean the same, by all of which others are to be split.
func newSplitter(rules []int) *splitter {
	s := &splitter{group: make([]int, len(rules)), at: make([]int, len(rules))}
	alike := map[int][]int{}
	for state, rule := range rules {
		alike[rule] = append(alike[rule], state)
	}
	for _, rule := range rules {
		if states, there := alike[rule]; there {
			s.wait(s.add(states))
			delete(alike, rule)
		}
	}
	return s
}

// add is a new group, of some states.
func (s *splitter) add(states []int) int {
	group := len(s.states)
	s.states, s.marked, s.waits = append(s.states, states), append(s.marked, 0), append(s.waits, false)
	for at, state := range states {
		s.group[state], s.at[state] = group, at
	}
	return group
}

// wait lays a group among those by which others are to be split.
func (s *splitter) wait(group int) {
	s.todo, s.waits[group] = append(s.todo, group), true
}

// mark marks a state that isn't marked.
func (s *splitter) mark(state int) {
	group := s.group[state]
	if s.marked[group] == 0 {
		s.touched = append(s.touched, group)
	}
	s.marked[group]++
	states, at := s.states[group], s.at[state]
	to := len(states) - s.marked[group]
	other := states[to]
	states[at], states[to] = other, state
	s.at[other], s.at[state] = at, to
}

// split makes of each group's marked states, if it has others too, a group of their own, and takes the marks away. Only what was marked gets another place, so that this takes no longer than to mark it.
func (s *splitter) split() {
	for _, group := range s.touched {
		states := s.states[group]
		marked := s.marked[group]
		s.marked[group] = 0
		left := len(states) - marked
		if left == 0 {
			continue
		}
		s.states[group] = states[:left]
		fresh := s.add(states[left:])
		if s.waits[group] || marked <= left {
			s.wait(fresh)
		} else {
			s.wait(group)
		}
	}
	s.touched = s.touched[:0]
}
