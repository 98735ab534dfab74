package ambig

import (
	"accidence/api"
	"accidence/chart"
	"accidence/forest"
	"accidence/meter"
)

// share is how many rules and symbols are looked at for one that is spent.
const share = 32

// search goes through a grammar's words, till it finds one that has more than one derivation.
type search struct {
	g     api.Grammar
	size  int
	chart *chart.Chart
	meter *meter.Meter
	found Proof
}

// newSearch is a search that is ahead of all words.
func newSearch(g api.Grammar, m *meter.Meter) *search {
	s := &search{g: g, chart: chart.New(g), meter: m}
	for _, r := range g.Rules {
		s.size += 1 + len(r.Right)
	}
	return s
}

// goThrough goes through the words that so many terminals more make of those of the chart, in order, and tells whether it found one.
func (s *search) goThrough(left int) bool {
	switch {
	case s.chart.Short() > left:
		return false
	case left == 0:
		return s.isFound(s.chart.Word())
	}
	for _, t := range s.chart.Next() {
		s.spend(1)
		s.chart.Push(t)
		if s.goThrough(left - 1) {
			return true
		}
		s.chart.Pop()
	}
	return false
}

// isFound tells whether a word has more than one derivation, of which two are kept then.
func (s *search) isFound(word []int) bool {
	s.spend((len(word) + 1) * (len(word) + 2) / 2)
	if forest.Trees(s.g, word) < 2 {
		return false
	}
	a, b, ok := forest.New(s.g, word).Two()
	if !ok {
		// There are two, but one of them is too long to be told. As this word can't be shown, and no other one is the answer, it all ends as if nothing were left.
		s.meter.Spend(api.MaxBudget + 1)
	}
	s.found = Proof{Word: word, A: a, B: b}
	return true
}

// spend spends for some looks at all rules: at one where a terminal is put behind others, at one for each part of a word where its trees are looked for.
func (s *search) spend(looks int) { s.meter.Spend(1 + looks*s.size/share) }
