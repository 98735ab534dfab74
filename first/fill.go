package first

import (
	"slices"

	"accidence/api"
	"accidence/gram"
	"accidence/meter"
	"accidence/strs"
)

// filling is sets that are being filled, out of those of fewer terminals, which are known.
type filling struct {
	rules         []api.Rule
	empty         []bool
	less          []*Sets
	sets          *Sets
	first, follow []*pool
	todo          []entry
	meter         *meter.Meter
}

// begin is the filling of sets, by those of 0 terminals, of 1, and so on, up to one less.
func begin(g api.Grammar, less []*Sets) *filling {
	f := &filling{less: less, sets: &Sets{K: len(less), g: g}}
	for range g.Vars {
		a, b := newPool(), newPool()
		f.first, f.follow = append(f.first, a), append(f.follow, b)
		f.sets.First, f.sets.Follow = append(f.sets.First, a.words), append(f.sets.Follow, b.words)
	}
	for _, r := range g.Rules {
		if isVarOf(g, r.Left) {
			f.rules = append(f.rules, r)
		}
	}
	f.empty = empties(len(g.Vars), f.rules)
	f.connect()
	return f
}

// empties is which variables become the empty word.
func empties(vars int, rules []api.Rule) []bool {
	empty := make([]bool, vars)
	for more := true; more; {
		more = false
		for _, r := range rules {
			if !empty[r.Left] && vanish(r.Right, empty) {
				empty[r.Left], more = true, true
			}
		}
	}
	return empty
}

// vanish tells whether all symbols of a form become the empty word.
func vanish(form []int, empty []bool) bool {
	return !slices.ContainsFunc(form, func(s int) bool { return !gram.IsVar(s) || s >= len(empty) || !empty[s] })
}

// connect tells all pools to which others their words go on as they are.
func (f *filling) connect() {
	for _, r := range f.rules {
		for at, s := range r.Right {
			if !isVarOf(f.sets.g, s) {
				continue
			}
			from, to := f.first[s], f.first[r.Left]
			lead, last := vanish(r.Right[:at], f.empty), vanish(r.Right[at+1:], f.empty)
			switch {
			case lead && last:
				from.all = with(from.all, to)
			case lead:
				from.full = with(from.full, to)
			}
			if last {
				f.follow[r.Left].all = with(f.follow[r.Left].all, f.follow[s])
			}
		}
	}
}

// fill fills all sets, and spends one for each word.
func (f *filling) fill(m *meter.Meter) {
	f.meter = m
	f.fillFirst()
	f.fillFollow()
}

// fillFirst puts in what variables begin with.
//
// A word that isn't empty is gone through by the first symbol of a rule that doesn't vanish in it. What comes behind a terminal is known from fewer terminals; so is what comes behind a variable, if its part is shorter than words may be. If it isn't, the part is the whole, and goes on as it is.
func (f *filling) fillFirst() {
	for v, empty := range f.empty {
		if empty {
			f.put(f.first[v], nil)
		}
	}
	f.extend(1, false)
	// A variable's words of n terminals are all there when all shorter parts are gone on from.
	for n := 1; n < f.sets.K; n++ {
		f.extend(n, true)
	}
}

// extend goes on from the words of n terminals of all symbols with which rules may begin, variables or terminals: each, with what may come behind, is put to those of the rule's variable.
func (f *filling) extend(n int, vars bool) {
	for _, r := range f.rules {
		e := newEnds(f.less[f.sets.K-n], r.Right, strs.Of(nil))
		for at := len(r.Right) - 1; at >= 0; at-- {
			if s := r.Right[at]; gram.IsVar(s) == vars && vanish(r.Right[:at], f.empty) {
				f.join(f.wordsOf(s)[n], e, at, func(word []int) { f.put(f.first[r.Left], word) })
			}
		}
	}
}

// fillFollow puts in what may follow variables.
func (f *filling) fillFollow() {
	if len(f.follow) > 0 {
		f.put(f.follow[0], nil)
	}
	for _, r := range f.rules {
		f.fillBehind(r)
	}
}

// fillBehind puts in what may follow a rule's variables in it, but for what follows the rule's own variable alone, which goes on as it is.
func (f *filling) fillBehind(r api.Rule) {
	// By how many terminals stand ahead of what comes behind a place.
	var list [api.MaxK + 1]*ends
	for n := 1; n <= f.sets.K; n++ {
		less := f.less[f.sets.K-n]
		list[n] = newEnds(less, r.Right, less.Follow[r.Left])
	}
	rest := newPool()
	for at := len(r.Right) - 1; at > 0; at-- {
		if !isVarOf(f.sets.g, r.Right[at-1]) {
			continue
		}
		to := f.follow[r.Right[at-1]]
		// What comes behind a symbol that vanishes comes ahead of it, too.
		if !vanish(r.Right[at:at+1], f.empty) {
			rest = newPool()
		}
		for _, word := range slices.Concat(rest.lists[:]...) {
			f.put(to, word)
		}
		own := f.wordsOf(r.Right[at])
		for n := 1; n <= f.sets.K; n++ {
			f.join(own[n], list[n], at, func(word []int) {
				if rest.add(word) {
					f.put(to, word)
				}
			})
		}
	}
}

// wordsOf is a symbol's words, by how many terminals they have, as far as they are known; none, if there is no such variable.
func (f *filling) wordsOf(s int) lists {
	var own lists
	switch {
	case !gram.IsVar(s):
		own[1] = [][]int{{^s}}
	case s < len(f.first):
		own = f.first[s].lists
	}
	return own
}

// join uses each of some words of one place of a rule with each of those that may come behind it.
func (f *filling) join(words [][]int, e *ends, at int, use func(word []int)) {
	if len(words) == 0 {
		return
	}
	tails := e.behind(at)
	for _, word := range words {
		for _, tail := range tails {
			use(strs.Join(word, tail, f.sets.K))
		}
	}
}

// ends is what may come behind the places of a form.
type ends struct {
	sets *Sets
	form []int
	// What comes from a place on, which is the last one that was made.
	tail *strs.Set
	from int
}

// newEnds is what may come behind the places of a form that has some words behind it, by some sets.
func newEnds(sets *Sets, form []int, tail *strs.Set) *ends {
	return &ends{sets: sets, form: form, tail: tail, from: len(form)}
}

// behind is what may come behind a place. Places are asked for from the last one to the first one, so that each is made of what is known of a later one.
func (e *ends) behind(place int) [][]int {
	e.tail, e.from = e.sets.Ahead(e.form[place+1:e.from], e.tail), place+1
	return e.tail.All()
}
