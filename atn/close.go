package atn

import "slices"

// Close is all configurations that are come to without a terminal, that stand ahead of one, or at the end, in order; false: there are more than may be, or deeper ones.
func (n *Net) Close(list []Config, deep, most int) ([]Config, bool) {
	w := newWalk(n, list, deep, most)
	for _, x := range list {
		stack := 0
		for _, spot := range x.Stack {
			stack = w.lay(stack, spot)
		}
		w.come(place{x.Alt, x.Spot, stack})
	}
	for len(w.todo) > 0 && !w.over {
		p := w.todo[len(w.todo)-1]
		w.todo = w.todo[:len(w.todo)-1]
		w.goOn(p)
	}
	if w.over || len(w.known) > most {
		return nil, false
	}
	return w.told(), true
}

// walk is how one goes on from configurations, and to which ones one came.
type walk struct {
	net        *Net
	deep, most int
	// Stacks are known by numbers, that of none is 0, so that a configuration is one key, however deep it is.
	stacks  []stack
	numbers map[link]int
	known   map[place]struct{}
	// The last one is gone on from first: so one comes to deep ones, that end it all, ahead of many that are not.
	todo []place
	over bool
	// Where a terminal stands next, or the end.
	found []place
}

// link is a stack's number, and a place that is laid behind it.
type link struct {
	under int
	last  Spot
}

// stack is how a stack is made, and how many places it has.
type stack struct {
	link
	size int
}

// place is a configuration, with its stack's number.
type place struct {
	alt   int
	spot  Spot
	stack int
}

// newWalk is a walk that came to nothing so far.
func newWalk(n *Net, list []Config, deep, most int) *walk {
	w := &walk{net: n, most: most, stacks: []stack{{}}, numbers: map[link]int{}, known: map[place]struct{}{}}
	longest := 0
	for _, x := range list {
		longest = max(longest, len(x.Stack))
	}
	if n != nil {
		longest += len(n.g.Vars)
	}
	// Whoever goes on to a variable within itself, without going back, does so again and again: on a stack so deep that this is so there is no end to them, so that there are more than may be, however many these are.
	w.deep = min(deep, longest)
	return w
}

// lay is the number of a stack with a place laid behind it.
func (w *walk) lay(under int, spot Spot) int {
	l := link{under, spot}
	number, known := w.numbers[l]
	if !known {
		number = len(w.stacks)
		w.numbers[l] = number
		w.stacks = append(w.stacks, stack{l, w.stacks[under].size + 1})
	}
	return number
}

// come comes to a configuration, from which one is to go on if it wasn't known. It is over if it is one too many, or too deep.
func (w *walk) come(p place) {
	if _, known := w.known[p]; known || w.over {
		return
	}
	w.known[p] = struct{}{}
	w.over = len(w.known) > w.most || w.stacks[p.stack].size > w.deep
	if w.net.next(p.spot) == neither {
		w.todo = append(w.todo, p)
	} else {
		w.found = append(w.found, p)
	}
}

// goOn goes on from a configuration that stands ahead of a variable, or at a rule's end.
func (w *walk) goOn(p place) {
	rest := w.net.rest(p.spot)
	switch {
	case len(rest) > 0:
		w.enter(p, rest)
	case p.stack > 0:
		back := w.stacks[p.stack]
		w.come(place{p.alt, back.last, back.under})
	case w.net.isSpot(p.spot):
		w.leave(p)
	}
}

// enter goes on to the beginnings of a variable's rules. Behind it there is nothing to go back to if its rule ends there, and is itself gone back from.
func (w *walk) enter(p place, rest []int) {
	stack := p.stack
	if len(rest) > 1 || stack == 0 {
		stack = w.lay(stack, p.spot.behind())
	}
	for _, rule := range w.net.rules(rest[0]) {
		w.come(place{p.alt, Spot{Rule: rule}, stack})
	}
}

// leave goes on from a rule's end, where there is nothing to go back to, to wherever its variable may stand.
func (w *walk) leave(p place) {
	v := w.net.g.Rules[p.spot.Rule].Left
	if !w.net.isVar(v) {
		return
	}
	for _, spot := range w.net.behind[v] {
		w.come(place{alt: p.alt, spot: spot})
	}
	if v == 0 {
		w.come(place{alt: p.alt, spot: theEnd()})
	}
}

// told is the configurations that were found, in order.
func (w *walk) told() []Config {
	var list []Config
	for _, p := range w.found {
		x := Config{Alt: p.alt, Spot: p.spot}
		for number := p.stack; number > 0; number = w.stacks[number].under {
			x.Stack = append(x.Stack, w.stacks[number].last)
		}
		slices.Reverse(x.Stack)
		list = append(list, x)
	}
	slices.SortFunc(list, Compare)
	return list
}
