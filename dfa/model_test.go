package dfa_test

import (
	"math"
	"slices"
	"sort"
	"strconv"
	"strings"
	"testing"

	"accidence/api"
	"accidence/atn"
	"accidence/deriv"
	"accidence/dfa"
	"accidence/gram"
	"accidence/sample"
	"accidence/table"
	"accidence/useful"
)

// most is how many places the automata of grammars of chance may have in a state.
const most = 2000

// told is configurations as text.
func told(list []atn.Config) string {
	var b strings.Builder
	for _, x := range list {
		b.WriteString(strconv.Itoa(x.Alt))
		for _, spot := range append([]atn.Spot{x.Spot}, x.Stack...) {
			b.WriteString(" " + strconv.Itoa(spot.Rule) + "." + strconv.Itoa(spot.Dot))
		}
		b.WriteString("\n")
	}
	return b.String()
}

// model is what is gone through from a variable's Start, set by set, each told by the net alone: how many sets there are that mean no rule, which rules are meant, and how deep and wide each Close must go.
type model struct {
	g            api.Grammar
	net          *atn.Net
	open         map[string]bool
	meant        map[int]bool
	deep, places int
}

// newModel is what is gone through from a variable; false: there is an end to it only ahead of some more places, or there is no automaton.
func newModel(g api.Grammar, v int) (*model, bool) {
	m := &model{g: g, net: atn.New(g), open: map[string]bool{}, meant: map[int]bool{}}
	return m, m.goThrough(m.net.Start(v))
}

// states is how many states there are, those that mean one rule as one.
func (m *model) states() int { return len(m.open) + len(m.meant) }

// goThrough goes through all sets to which some configurations lead.
func (m *model) goThrough(list []atn.Config) bool {
	closed, ok := m.close(list)
	if !ok || len(closed) == 0 {
		return false
	}
	if alts := atn.Alts(closed); len(alts) == 1 {
		m.meant[alts[0]] = true
		return true
	}
	key := told(closed)
	if m.open[key] {
		return true
	}
	m.open[key] = true
	ends := atEnd(closed)
	if len(ends) > 1 || m.states() > api.MaxStates {
		return false
	}
	for _, rule := range ends {
		m.meant[rule] = true
	}
	for t := range m.g.Terms {
		if moved := m.net.Move(closed, t); len(moved) > 0 && !m.goThrough(moved) {
			return false
		}
	}
	return m.states() <= api.MaxStates
}

// close closes configurations, and keeps in mind how deep and wide that goes.
func (m *model) close(list []atn.Config) ([]atn.Config, bool) {
	closed, ok := m.net.Close(list, api.MaxStack, most)
	if !ok {
		return nil, false
	}
	m.deep = max(m.deep, sort.Search(api.MaxStack, func(deep int) bool {
		_, fine := m.net.Close(list, deep, most)
		return fine
	}))
	m.places = max(m.places, sort.Search(most, func(places int) bool {
		_, fine := m.net.Close(list, api.MaxStack, places)
		return fine
	}))
	return closed, ok
}

// run is what is to be answered of what comes next.
func (m *model) run(v int, rest []int) (int, int) {
	list := m.net.Start(v)
	for at := 0; ; at++ {
		closed, _ := m.net.Close(list, api.MaxStack, most)
		switch alts := atn.Alts(closed); {
		case len(alts) == 1:
			return alts[0], at
		case len(alts) == 0:
			return -1, at - 1
		case at == len(rest):
			if ends := atEnd(closed); len(ends) > 0 {
				return ends[0], at + 1
			}
			return -1, at
		}
		list = m.net.Move(closed, rest[at])
	}
}

// atEnd is the Alts of those configurations that are at the end.
func atEnd(list []atn.Config) []int {
	return atn.Alts(slices.DeleteFunc(slices.Clone(list), func(x atn.Config) bool { return x.Spot.Rule >= 0 }))
}

// words is all words of up to so many terminals, with what is none among them.
func words(g api.Grammar, n int) [][]int {
	all := [][]int{nil}
	for from := 0; n > 0; n-- {
		to := len(all)
		for ; from < to; from++ {
			for t := -1; t <= len(g.Terms); t++ {
				all = append(all, append(slices.Clone(all[from]), t))
			}
		}
	}
	return all
}

// isBuilt tells a fault if what is built of a variable isn't what is gone through, of all limits that are near to where there is none.
func isBuilt(t *testing.T, g api.Grammar, v int) (dfa.Dfa, *model, bool) {
	t.Helper()
	m, want := newModel(g, v)
	d, ok := dfa.Build(g, v, api.MaxStack, most, api.MaxStates)
	if ok != want || !ok && (d.Next != nil || d.Rule != nil) {
		t.Fatalf("%s%d: %v, want %v", gram.Print(g), v, ok, want)
	}
	if !ok {
		return d, m, false
	}
	for _, l := range [][3]int{{m.deep, m.places, m.states()}, {m.deep - 1, most, 256}, {16, m.places - 1, 256}, {16, most, m.states() - 1}, {100, most, 1000}} {
		_, fine := dfa.Build(g, v, l[0], l[1], l[2])
		if fine != (l[0] >= m.deep && l[1] >= m.places && l[2] >= m.states()) {
			t.Fatalf("%s%d: %v: %v, want %d, %d, %d", gram.Print(g), v, l, fine, m.deep, m.places, m.states())
		}
	}
	return d, m, true
}

// isLaidOut tells whether an automaton is laid out as one, of a grammar's terminals, and means only rules of a variable.
func isLaidOut(g api.Grammar, v int, d dfa.Dfa) bool {
	if len(d.Next) == 0 || len(d.Next) != len(d.Rule) {
		return false
	}
	from, to := gram.Rules(g, v)
	for state, row := range d.Next {
		rule := d.Rule[state]
		if len(row) != len(g.Terms)+1 || rule != -1 && (rule < from || rule >= to) {
			return false
		}
		for _, next := range row {
			if next < -1 || next >= len(d.Next) || next >= 0 && rule >= 0 {
				return false
			}
		}
	}
	return true
}

// P15.1: automata of grammars of chance, within which limits there are some, and what they answer of all short words.
func TestModel(t *testing.T) {
	r := sample.Roll(173)
	built, none := 0, 0
	for range 4000 {
		g := r.Useful()
		all := words(g, 4)
		for v := range g.Vars {
			d, m, ok := isBuilt(t, g, v)
			if !ok {
				none++
				continue
			}
			if len(d.Rule) > 1 {
				built++
			}
			if !isLaidOut(g, v, d) {
				t.Fatalf("%s%d: %s", gram.Print(g), v, d.Text(g))
			}
			for _, rest := range all {
				rule, n := d.Run(rest)
				if want, steps := m.run(v, rest); rule != want || n != steps {
					t.Fatalf("%s%d: %v: %d, %d, want %d, %d", gram.Print(g), v, rest, rule, n, want, steps)
				}
			}
		}
	}
	if built < 700 || none < 700 {
		t.Errorf("%d automata, %d times none", built, none)
	}
}

// P15.1: automata of great grammars.
func TestGreat(t *testing.T) {
	r := sample.Roll(179)
	built := 0
	for range 2000 {
		g, _, ok := useful.Reduce(r.Great())
		if !ok || len(g.Vars) < 5 {
			continue
		}
		for v := range min(len(g.Vars), 4) {
			d, m, ok := isBuilt(t, g, v)
			if !ok || len(d.Rule) == 1 {
				continue
			}
			built++
			for range 50 {
				rest := make([]int, r.Of(9))
				for i := range rest {
					rest[i] = r.Of(len(g.Terms) + 1)
				}
				rule, n := d.Run(rest)
				if want, steps := m.run(v, rest); rule != want || n != steps {
					t.Fatalf("%s%d: %v: %d, %d, want %d, %d", gram.Print(g), v, rest, rule, n, want, steps)
				}
			}
		}
	}
	if built < 100 {
		t.Errorf("%d automata", built)
	}
}

// P15.2: what an automaton tells is the only rule that the first terminals mean of which there is but one, or, if nothing else comes, the end behind them.
func TestTables(t *testing.T) {
	r := sample.Roll(181)
	asked := 0
	for range 800 {
		g := r.Useful()
		list := sample.Tables(g)
		all := words(g, api.MaxK-1)
		for v := range g.Vars {
			d, ok := dfa.Build(g, v, api.MaxStack, most, api.MaxStates)
			if !ok {
				continue
			}
			for _, rest := range all {
				rule, n := d.Run(rest)
				if want, steps := tell(g, list, v, rest); rule != want || n != steps {
					t.Fatalf("%s%d: %v: %d, %d, want %d, %d", gram.Print(g), v, rest, rule, n, want, steps)
				}
				asked++
			}
		}
	}
	if asked < 30000 {
		t.Errorf("%d words", asked)
	}
}

// tell is what a grammar's tables tell of a word: the rule that as few terminals as may be mean, and how many these are, the end counted as one.
func tell(g api.Grammar, list []*table.Table, v int, rest []int) (int, int) {
	if from, to := gram.Rules(g, v); to-from == 1 {
		return from, 0
	}
	for at := 1; at <= len(rest)+1; at++ {
		// Behind the last terminal the word is too short for the table: so the end is looked at.
		switch rules := list[at].Find(v, rest[:min(at, len(rest))]); len(rules) {
		case 0:
			return -1, at - 1
		case 1:
			return rules[0], at
		}
	}
	return -1, math.MinInt
}

// P15.2: at each step of a derivation the automaton tells its rule, if there is an automaton.
func TestDerivations(t *testing.T) {
	r := sample.Roll(191)
	asked, far := 0, 0
	for range 6000 {
		g := r.Useful()
		made := make([]dfa.Dfa, len(g.Vars))
		for v := range g.Vars {
			made[v], _ = dfa.Build(g, v, api.MaxStack, most, api.MaxStates)
		}
		for range 3 {
			rules := r.Derivation(g, []int{0})
			word, e := deriv.Yield(g, []int{0}, rules)
			if e != api.OK {
				t.Fatalf("%s%v: %d", gram.Print(g), rules, e)
			}
			form := []int{0}
			for _, rule := range rules {
				lead, at := deriv.Lead(form)
				if d := made[form[at]]; len(d.Next) > 0 {
					got, n := d.Run(word[len(lead):])
					if got != rule || n > len(word)-len(lead)+1 {
						t.Fatalf("%s%v: %d of %d: %d, %d, want %d", gram.Print(g), rules, form[at], len(lead), got, n, rule)
					}
					asked++
					if n > 2 {
						far++
					}
				}
				form, _ = deriv.Step(g, form, rule)
			}
		}
	}
	if asked < 9000 || far < 200 {
		t.Errorf("%d steps, %d by more than two terminals", asked, far)
	}
}

// Rule 6: names and weights have no part in it, nor what was called ahead.
func TestSameAgain(t *testing.T) {
	r := sample.Roll(193)
	for range 500 {
		g := r.Useful()
		h := sample.Renamed(g)
		for v := range g.Vars {
			one, ok := dfa.Build(g, v, 8, 400, 100)
			two, fine := dfa.Build(h, v, 8, 400, 100)
			again, same := dfa.Build(g, v, 8, 400, 100)
			if ok != fine || ok != same || one.Text(g) != two.Text(g) || one.Text(g) != again.Text(g) {
				t.Fatalf("%s%d: %s%s%s", gram.Print(g), v, one.Text(g), two.Text(g), again.Text(g))
			}
		}
	}
}
