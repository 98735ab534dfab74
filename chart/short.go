package chart

import (
	"slices"

	"accidence/api"
	"accidence/gram"
	"accidence/useful"
)

// Short is how many terminals it takes at least, put behind the others, until they are a word; useful.Far: there are none, or they are as many, or more.
func (c *Chart) Short() int {
	if c.Accepts() {
		return 0
	}
	need := useful.Far
	for _, t := range c.Next() {
		need = min(need, c.needWith(t))
	}
	return need
}

// Finish is the first one of the shortest words that make a word of the terminals; false: it is too long.
func (c *Chart) Finish() ([]int, bool) {
	need := c.Short()
	if need > api.MaxWord {
		return nil, false
	}
	own := &Chart{c.book, slices.Clone(c.word), slices.Clone(c.fronts), c.measured}
	for ; need > 0; need-- {
		list := own.Next()
		own.Push(list[slices.IndexFunc(list, func(t int) bool { return own.needWith(t) == need })])
	}
	return own.word[c.Len():], true
}

// needWith is how many terminals it takes at least, if a terminal that goes on is the first one of them.
func (c *Chart) needWith(t int) int {
	c.measure()
	return add(1, c.needBehind(c.last(), ^t))
}

// needBehind is how many terminals it takes at least behind a symbol that stands next at a front.
func (c *Chart) needBehind(f *front, s int) int {
	need := useful.Far
	for _, i := range f.ahead[s] {
		left, rest := c.book.left(i), c.book.shortest(c.book.right(i)[1:])
		for at := range f.begun[i].all() {
			need = min(need, add(rest, c.fronts[at].needs[left]))
		}
	}
	return need
}

// measure makes of all fronts what the variables need that begin there: of each one those ahead of it tell that, and its own.
func (c *Chart) measure() {
	for ; c.measured < len(c.fronts); c.measured++ {
		f := c.fronts[c.measured]
		f.needs = slices.Repeat([]int{useful.Far}, len(c.book.g.Vars))
		if c.measured == 0 {
			f.needs[0] = 0
		}
		c.settle(f)
	}
}

// settle goes through the variables that stand next at a front, again and again, till less is needed behind none of them.
func (c *Chart) settle(f *front) {
	for more := true; more; {
		more = false
		for _, s := range f.nexts {
			if !gram.IsVar(s) {
				continue
			}
			if need := c.needBehind(f, s); need < f.needs[s] {
				f.needs[s], more = need, true
			}
		}
	}
}
