package proof

import (
	"slices"

	"accidence/api"
	"accidence/meter"
	"accidence/table"
)

// finder finds proofs, and keeps what it knows of each lookahead, as many clashes have the same one.
type finder struct {
	g     api.Grammar
	k     int
	meter *meter.Meter
	free  *ways
	known map[[api.MaxK]int]*search
}

// newFinder is a finder to which nothing is known.
func newFinder(g api.Grammar, k int, m *meter.Meter) *finder {
	return &finder{g: g, k: k, meter: m, known: map[[api.MaxK]int]*search{}}
}

// proof is the proof of a clash; false: there is none of so few steps as there may be.
func (f *finder) proof(c table.Clash) (Proof, bool) {
	if !f.mayClash(c) {
		return Proof{}, false
	}
	p := Proof{Var: c.Var, A: c.A, B: c.B, K: f.k, Look: slices.Clone(c.Look)}
	s := f.search(p.Look)
	for i, rule := range p.pair() {
		side, ok := s.side(rule)
		if !ok {
			return Proof{}, false
		}
		p.Sides[i] = side
	}
	return p, true
}

// mayClash tells whether a clash is one of two rules that there are, by a lookahead that there may be.
func (f *finder) mayClash(c table.Clash) bool {
	if f.k < 1 || f.k > api.MaxK || len(c.Look) > f.k || slices.ContainsFunc(c.Look, func(t int) bool { return t < 0 || t >= len(f.g.Terms) }) {
		return false
	}
	return isVarOf(f.g, c.Var) && c.A != c.B && isRuleOf(f.g, c.Var, c.A) && isRuleOf(f.g, c.Var, c.B)
}

// search is the search for sides with a lookahead.
func (f *finder) search(look []int) *search {
	var key [api.MaxK]int
	for i := range key {
		key[i] = api.End
	}
	copy(key[:], look)
	if f.known[key] == nil {
		if f.free == nil {
			f.free = newWays(f.g, nil, true, f.meter)
		}
		f.known[key] = f.newSearch(slices.Clone(look))
	}
	return f.known[key]
}

// stand is how a variable stands in a derivation, so that the lookahead goes on behind it from a place: in how few steps, but for those of the variable's own word, and by which rule, at which of its symbols. The start stands alone, by rule -1.
type stand struct{ steps, rule, at int }

// search is what is known of a lookahead: how symbols become parts of it, or whatever word, how variables stand, by the places behind them, and the sides that were found.
type search struct {
	g      api.Grammar
	meter  *meter.Meter
	free   *ways
	ways   *ways
	stands [][api.MaxK + 1]stand
	sides  map[int]Side
}

// newSearch is the search for sides with a lookahead. If that has fewer terminals than it may have, the word ends behind it.
func (f *finder) newSearch(look []int) *search {
	s := &search{g: f.g, meter: f.meter, free: f.free, sides: map[int]Side{}}
	s.ways = newWays(f.g, look, len(look) == f.k, f.meter)
	s.stands = make([][api.MaxK + 1]stand, len(f.g.Vars))
	for v := range s.stands {
		for at := range s.stands[v] {
			s.stands[v][at] = stand{steps: far, rule: -1}
		}
	}
	s.stands[0][len(look)].steps = 0
	settle(f.g, slices.All(f.g.Rules), f.meter, s.learn)
	return s
}

// learn looks whether variables stand in a rule so that it takes fewer steps than where they stand in others.
func (s *search) learn(rule int, r api.Rule) bool {
	more := false
	lead, on := s.lead(r.Right), s.behind(r.Left)
	for at, symbol := range slices.Backward(r.Right) {
		if isVarOf(s.g, symbol) {
			for from, steps := range on {
				steps += lead[at] + 1
				if own := &s.stands[symbol][from]; steps < own.steps {
					*own, more = stand{steps, rule, at}, true
				}
			}
		}
		on = s.ways.through(symbol, on)
	}
	return more
}

// lead is in how few steps the symbols ahead of each place of a form become words, whichever these are.
func (s *search) lead(form []int) []int {
	list := []int{0}
	on := upTo(0)
	for _, symbol := range form {
		on = s.free.through(symbol, on)
		list = append(list, on[0])
	}
	return list
}

// behind is in how few steps one comes on behind a variable, from each place of the lookahead.
func (s *search) behind(v int) row {
	on := nowhere()
	for at, own := range s.stands[v] {
		on[at] = own.steps
	}
	return on
}

// side is a side of as few steps as may be, which takes a rule ahead of the lookahead; false: these are too many. What is told is new memory.
func (s *search) side(rule int) (Side, bool) {
	if _, found := s.sides[rule]; !found {
		made, ok := s.build(rule)
		if !ok {
			return Side{}, false
		}
		s.meter.Spend(len(made.Rules))
		s.sides[rule] = made
	}
	own := s.sides[rule]
	return Side{Rules: slices.Clone(own.Rules), Cut: own.Cut}, true
}

// nest is a rule, the place in it where what is below it stands, and the places of the lookahead between the symbols behind that.
type nest struct {
	rule, at int
	places   []int
}

// build is a side that is made anew: first what is above the rule, and ahead of it, then the rule, and at last what is behind it.
func (s *search) build(rule int) (Side, bool) {
	r := s.g.Rules[rule]
	places, steps := s.ways.walk(r.Right, 0, s.behind(r.Left))
	if steps+1 >= far {
		return Side{}, false
	}
	above := s.above(r.Left, places[len(r.Right)])
	var made Side
	for _, n := range slices.Backward(above) {
		ahead := s.g.Rules[n.rule].Right[:n.at]
		made.Rules = s.free.become(append(made.Rules, n.rule), ahead, make([]int, n.at+1))
	}
	made.Cut = len(made.Rules)
	made.Rules = s.ways.become(append(made.Rules, rule), r.Right, places)
	for _, n := range above {
		made.Rules = s.ways.become(made.Rules, s.g.Rules[n.rule].Right[n.at+1:], n.places)
	}
	return made, true
}

// above is what is above a variable, behind which the lookahead goes on from a place, from the nearest one up to the start.
func (s *search) above(v, at int) []nest {
	var list []nest
	for own := s.stands[v][at]; own.rule >= 0; own = s.stands[v][at] {
		r := s.g.Rules[own.rule]
		places, _ := s.ways.walk(r.Right[own.at+1:], at, s.behind(r.Left))
		list = append(list, nest{own.rule, own.at, places})
		v, at = r.Left, places[len(places)-1]
	}
	return list
}
