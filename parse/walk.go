package parse

import (
	"accidence/api"
	"accidence/gram"
)

// guide tells by which rule a variable is to be replaced, by what comes next; -1: by none.
type guide interface {
	Predict(v int, rest []int) int
}

// open is a rule that is being gone through.
type open struct {
	left int
	// What is left of it.
	right []int
	// Where it began.
	from place
}

// place is how many terminals were passed, and how many rules were told.
type place struct{ at, told int }

// part is where a variable vanished: how many terminals were passed, and which ones of the rules that were told it vanished by.
type part struct{ at, from, to int }

// walk is how far one came.
type walk struct {
	guide guide
	rules []api.Rule
	word  []int
	// The stack: what is left of each rule is laid above what is left of the ones ahead of it.
	stack []open
	place
	steps int
	// Where each variable vanished last.
	vanished []part
	// The rules that were told, if they are kept.
	keep bool
	list []int
}

// newWalk is a walk that hasn't begun.
func newWalk(who guide, g api.Grammar, word []int) *walk {
	w := &walk{guide: who, rules: g.Rules, word: word, stack: []open{{left: -1, right: []int{0}}}, vanished: make([]part, len(g.Vars))}
	for v := range w.vanished {
		w.vanished[v].at = -1
	}
	return w
}

// tell is the rules that are told, which are so many.
func (w *walk) tell(n int) []int {
	w.keep, w.list = true, make([]int, 0, n)
	w.run()
	return w.list
}

// run goes on till the stack is empty; false: a step can't be done.
func (w *walk) run() bool {
	for len(w.stack) > 0 {
		top := &w.stack[len(w.stack)-1]
		if len(top.right) == 0 {
			w.end(*top)
			continue
		}
		s := top.right[0]
		top.right = top.right[1:]
		if !w.step(s) {
			return false
		}
	}
	return true
}

// end takes a rule off the stack that was gone through.
func (w *walk) end(x open) {
	w.stack = w.stack[:len(w.stack)-1]
	if x.left >= 0 && x.from.at == w.at {
		w.vanished[x.left] = part{at: w.at, from: x.from.told, to: w.told}
	}
}

// step is what is done of a symbol; false: it can't be done.
func (w *walk) step(s int) bool {
	if !gram.IsVar(s) {
		return w.pass(^s)
	}
	// What vanished here vanishes by the same rules again, of which there may be many.
	if x := w.vanished[s]; x.at == w.at {
		w.again(x)
		return true
	}
	w.steps++
	rule := w.guide.Predict(s, w.word[w.at:])
	if rule < 0 {
		return false
	}
	w.stack = append(w.stack, open{left: s, right: w.rules[rule].Right, from: w.place})
	if w.told++; w.keep {
		w.list = append(w.list, rule)
	}
	return true
}

// pass passes a terminal; false: another one comes next, or none.
func (w *walk) pass(t int) bool {
	w.steps++
	if w.at == len(w.word) || w.word[w.at] != t {
		return false
	}
	w.at++
	return true
}

// again takes all steps by which a variable vanished here.
func (w *walk) again(x part) {
	n := x.to - x.from
	w.steps += n
	w.told += n
	if w.keep {
		w.list = append(w.list, w.list[x.from:x.to]...)
	}
}
