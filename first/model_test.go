package first_test

import (
	"math"
	"slices"
	"testing"

	"accidence/api"
	"accidence/deriv"
	"accidence/first"
	"accidence/gram"
	"accidence/sample"
	"accidence/strs"
	"accidence/useful"
)

// words is a set of words of terminals, each as the bytes of its numbers.
type words map[string]bool

// of is the words of a set.
func of(s *strs.Set) words {
	list := words{}
	for _, word := range s.All() {
		one := make([]byte, len(word))
		for i, n := range word {
			one[i] = byte(n)
		}
		list[string(one)] = true
	}
	return list
}

// take puts words in, and tells whether one of them wasn't.
func (w words) take(more words) bool {
	n := len(w)
	for one := range more {
		w[one] = true
	}
	return len(w) > n
}

// same tells whether two sets have the same words.
func (w words) same(o words) bool {
	for one := range w {
		if !o[one] {
			return false
		}
	}
	return len(w) == len(o)
}

// cut is a word's first k terminals.
func cut(s string, k int) string { return s[:min(len(s), k)] }

// model is First and Follow, by going through all rules till nothing is new.
type model struct {
	k             int
	first, follow []words
}

// ahead is the beginnings of what symbols become, by what is known so far, with one of some words behind.
func (m *model) ahead(form []int, tail words) words {
	if len(form) == 0 {
		all := words{}
		for one := range tail {
			all[cut(one, m.k)] = true
		}
		return all
	}
	begins := words{string([]byte{byte(^form[0])}): true}
	if form[0] >= 0 {
		begins = m.first[form[0]]
	}
	all := words{}
	for rest := range m.ahead(form[1:], tail) {
		for one := range begins {
			all[cut(one+rest, m.k)] = true
		}
	}
	return all
}

// modelOf is the model of a grammar.
func modelOf(g api.Grammar, k int) *model {
	m := &model{k: k}
	for range g.Vars {
		m.first, m.follow = append(m.first, words{}), append(m.follow, words{})
	}
	for more := true; more; {
		more = false
		for _, r := range g.Rules {
			more = m.first[r.Left].take(m.ahead(r.Right, words{"": true})) || more
		}
	}
	m.follow[0][""] = true
	for more := true; more; {
		more = false
		for _, r := range g.Rules {
			for i, s := range r.Right {
				more = s >= 0 && m.follow[s].take(m.ahead(r.Right[i+1:], m.follow[r.Left])) || more
			}
		}
	}
	return m
}

// isAsTold tells a fault if the sets of a grammar aren't those of a model, and is how many words there are.
func isAsTold(t *testing.T, g api.Grammar, k int) int {
	t.Helper()
	s, m := sets(t, g, k), modelOf(g, k)
	n := 0
	for v := range g.Vars {
		if first, follow := of(s.First[v]), of(s.Follow[v]); !first.same(m.first[v]) || !follow.same(m.follow[v]) {
			t.Fatalf("%s%d of %d: %v, %v, want %v, %v", gram.Print(g), k, v, first, follow, m.first[v], m.follow[v])
		}
		n += len(m.first[v]) + len(m.follow[v])
	}
	if got := s.Words(); got != n {
		t.Fatalf("%s%d: %d words, want %d", gram.Print(g), k, got, n)
	}
	for i, r := range g.Rules {
		if got, want := of(s.Look(i)), m.ahead(r.Right, m.follow[r.Left]); !got.same(want) {
			t.Fatalf("%s%d: rule %d: %v, want %v", gram.Print(g), k, i, got, want)
		}
	}
	_, few := first.Of(g, k, n-1)
	if more, ok := first.Of(g, k, n); few || !ok || more.Words() != n {
		t.Fatalf("%s%d: %v by a word less than %d, %v by as many", gram.Print(g), k, few, n, ok)
	}
	return n
}

// P10.1: the sets of grammars of chance, and how many words they may have.
func TestSetsAsTold(t *testing.T) {
	r := sample.Roll(43)
	most := 0
	for range 4000 {
		g := r.Useful()
		for k := 1; k <= api.MaxK; k++ {
			most = max(most, isAsTold(t, g, k))
		}
	}
	great := 0
	for range 250 {
		if g, _, ok := useful.Reduce(r.Great()); ok && len(g.Vars) > 9 {
			most = max(most, isAsTold(t, g, 1), isAsTold(t, g, 2))
			great++
		}
	}
	if most < 500 || great < 30 {
		t.Errorf("%d words at most, %d great grammars", most, great)
	}
}

// P10.1: what forms of chance become, with words of chance behind.
func TestAheadAsTold(t *testing.T) {
	r := sample.Roll(47)
	some := 0
	for range 3000 {
		g, k := r.Useful(), 1+r.Of(api.MaxK)
		s, m := sets(t, g, k), modelOf(g, k)
		form, tail := make([]int, r.Of(6)), strs.Of()
		for i := range form {
			form[i] = r.Symbol(g)
		}
		for range r.Of(4) {
			word := make([]int, r.Of(6))
			for i := range word {
				word[i] = r.Of(100)
			}
			tail.Add(word)
		}
		got, want := of(s.Ahead(form, tail)), m.ahead(form, of(tail))
		if !got.same(want) {
			t.Fatalf("%s%d %v %v: %v, want %v", gram.Print(g), k, form, tail.All(), got, want)
		}
		some += len(got)
	}
	if some < 5000 {
		t.Errorf("%d words only", some)
	}
}

// wordOf is the first k terminals of a form, all of which are terminals.
func wordOf(form []int, k int) ([]int, bool) {
	word, at := deriv.Lead(form)
	return strs.Cut(word, k), at < 0
}

// P10.1: First and Follow are those beginnings that forms have, all of which are made.
func TestAllForms(t *testing.T) {
	r := sample.Roll(53)
	fine, some := 0, 0
	for range 2500 {
		g := r.Finite()
		all := sample.Forms(g, []int{0})
		if all == nil {
			continue
		}
		fine++
		for k := 1; k <= api.MaxK; k++ {
			s := sets(t, g, k)
			follow := make([]strs.Set, len(g.Vars))
			for _, form := range all {
				for at, symbol := range form {
					if word, ok := wordOf(form[at+1:], k); ok && symbol >= 0 {
						follow[symbol].Add(word)
					}
				}
			}
			for v := range g.Vars {
				begins := strs.Of()
				for _, form := range sample.Forms(g, []int{v}) {
					if word, ok := wordOf(form, k); ok {
						begins.Add(word)
					}
				}
				if !s.First[v].Same(begins) || !s.Follow[v].Same(&follow[v]) {
					t.Fatalf("%s%d of %d: %v, %v, want %v, %v", gram.Print(g), k, v, s.First[v].All(), s.Follow[v].All(), begins.All(), follow[v].All())
				}
				some += begins.Len() + follow[v].Len()
			}
		}
	}
	if fine < 1500 || some < 30000 {
		t.Errorf("%d grammars, %d words", fine, some)
	}
}

// grow is a form behind steps of chance at places of chance.
func grow(r *sample.Roll, g api.Grammar) []int {
	form := []int{0}
	for range r.Of(8) {
		at := r.Of(max(len(form), 1))
		if len(form) == 0 || form[at] < 0 || len(form) > 12 {
			continue
		}
		lo, hi := gram.Rules(g, form[at])
		form = slices.Concat(form[:at], g.Rules[lo+r.Of(hi-lo)].Right, form[at+1:])
	}
	return form
}

// P10.2: whatever a derivation has, at whichever place, is among what was told.
func TestDerivations(t *testing.T) {
	r := sample.Roll(59)
	steps := 0
	for range 4000 {
		g, k := r.Useful(), 1+r.Of(api.MaxK)
		s := sets(t, g, k)
		for range 5 {
			rules := r.Derivation(g, []int{0})
			all, e := deriv.Yield(g, []int{0}, rules)
			if e != api.OK {
				t.Fatalf("%s%v: %d", gram.Print(g), rules, e)
			}
			form := []int{0}
			for _, rule := range rules {
				word, at := deriv.Lead(form)
				rest := strs.Cut(all[len(word):], k)
				if !s.Look(rule).Has(rest) || !s.Ahead(form[at:], strs.Of(nil)).Has(rest) || !s.Ahead([]int{form[at]}, s.Follow[form[at]]).Has(rest) {
					t.Fatalf("%s%d: %v isn't among what comes where %d is taken", gram.Print(g), k, rest, rule)
				}
				form, _ = deriv.Step(g, form, rule)
				steps++
			}
		}
	}
	if steps < 50000 {
		t.Errorf("%d steps only", steps)
	}
}

// P10.2: a variable's words, and what stands behind it, at whichever place of whichever form, begin as is told.
func TestPlacesOfForms(t *testing.T) {
	r := sample.Roll(61)
	places := 0
	for range 4000 {
		g, k := r.Useful(), 1+r.Of(api.MaxK)
		s := sets(t, g, k)
		for range 5 {
			form := grow(&r, g)
			for at, v := range form {
				if v < 0 {
					continue
				}
				own, e := deriv.Yield(g, []int{v}, r.Derivation(g, []int{v}))
				rest, f := deriv.Yield(g, form[at+1:], r.Derivation(g, form[at+1:]))
				if e != api.OK || f != api.OK || !s.First[v].Has(strs.Cut(own, k)) || !s.Follow[v].Has(strs.Cut(rest, k)) {
					t.Fatalf("%s%d: %v, %v of %d in %v", gram.Print(g), k, own, rest, v, form)
				}
				if !s.Ahead(form[at:], strs.Of([]int{math.MaxInt})).Has(strs.Join(strs.Join(own, rest, k), []int{math.MaxInt}, k)) {
					t.Fatalf("%s%d: %v, %v, and something behind", gram.Print(g), k, own, rest)
				}
				places++
			}
		}
	}
	if places < 10000 {
		t.Errorf("%d places only", places)
	}
}
