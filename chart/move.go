package chart

import "accidence/gram"

// mover makes the front behind a terminal.
type mover struct {
	c    *Chart
	made *front
	// The variables that end there, by where they began, and the calls from which one is still to go on.
	ended map[int]places
	todo  []call
}

// move is where one may be behind the terminals and one more, which is told as a symbol; false: they don't go on then.
func (c *Chart) move(s int) (*front, bool) {
	from := c.last()
	if gram.IsVar(s) || len(from.ahead[s]) == 0 {
		return nil, false
	}
	m := &mover{c: c, made: newFront(), ended: map[int]places{}}
	m.pass(from, s)
	for len(m.todo) > 0 {
		x := m.todo[len(m.todo)-1]
		m.todo = m.todo[:len(m.todo)-1]
		m.made.whole = m.made.whole || x == call{}
		m.pass(c.fronts[x.at], x.v)
	}
	c.book.foresee(m.made, len(c.fronts))
	return m.made, true
}

// pass goes on from a front's items ahead of a symbol to those behind it.
func (m *mover) pass(from *front, s int) {
	for _, i := range from.ahead[s] {
		m.end(m.c.book.left(i), m.c.book.enter(m.made, i.behind(), from.begun[i]))
	}
}

// end ends a variable that began at some places.
//
// Rules that end with a variable may stand one within the other, as many as there are terminals, and all of them end with each terminal. So of calls that do nothing but end another one just the last one is gone on from.
func (m *mover) end(v int, begun places) {
	fresh := begun.without(m.ended[v])
	m.ended[v] = m.ended[v].with(fresh)
	for at := range fresh.all() {
		x := call{at, v}
		if top := m.c.top(x); top != x {
			m.end(top.v, placesOf(top.at))
		} else {
			m.todo = append(m.todo, x)
		}
	}
}

// top is the last one of some calls, from one on, each of which does nothing but end the next one.
func (c *Chart) top(x call) call {
	var passed []call
	for {
		if top, known := c.fronts[x.at].tops[x.v]; known {
			x = top
			break
		}
		next, ok := c.only(x)
		if !ok {
			break
		}
		passed = append(passed, x)
		x = next
	}
	for _, one := range passed {
		c.fronts[one.at].tops[one.v] = x
	}
	return x
}

// only is the call that is all that a call ends; false: there is none, or something else is behind it, too. (The start at the first place ends the word.)
func (c *Chart) only(x call) (call, bool) {
	f := c.fronts[x.at]
	list := f.ahead[x.v]
	if x == (call{}) || len(list) != 1 || len(c.book.right(list[0])) > 1 {
		return call{}, false
	}
	at, ok := f.begun[list[0]].only()
	return call{at, c.book.left(list[0])}, ok
}
