package ambig_test

import (
	"math"
	"slices"
	"sort"
	"strconv"
	"strings"
	"testing"

	"accidence/ambig"
	"accidence/api"
	"accidence/deriv"
	"accidence/forest"
	"accidence/gram"
	"accidence/sample"
	"accidence/strs"
	"accidence/useful"
)

// first is the first one of the shortest words of up to so many terminals that have two trees, among all lists of terminals; false: there is none.
func first(g api.Grammar, most int) ([]int, bool) {
	all := [][]int{nil}
	for n := 0; n <= most; n++ {
		var next [][]int
		for _, w := range all {
			if forest.Trees(g, w) > 1 {
				return w, true
			}
			for t := range g.Terms {
				next = append(next, append(slices.Clone(w), t))
			}
		}
		all = next
	}
	return nil, false
}

// isFirst tells a fault if another word is found, or none, or one too many.
func isFirst(t *testing.T, g api.Grammar, most int) bool {
	t.Helper()
	w, ok := first(g, most)
	if !ok {
		isAnswer(t, g, most, api.MaxBudget, ambig.None)
		return false
	}
	isFound(t, g, most, api.MaxBudget, w)
	isFound(t, g, most+1, api.MaxBudget, w)
	isAnswer(t, g, len(w)-1, api.MaxBudget, ambig.None)
	return true
}

// P19.1, P19.2, P4: words of grammars of chance, not all of which is of use.
func TestModel(t *testing.T) {
	r := sample.Roll(257)
	none := 0
	lengths := map[int]int{}
	for range 3000 {
		g := r.Grammar()
		if !isFirst(t, g, 4) {
			none++
			continue
		}
		p, _ := ambig.Find(g, 4, api.MaxBudget)
		lengths[len(p.Word)]++
	}
	if none < 1000 || lengths[0] < 300 || min(lengths[1], lengths[2]) < 100 || min(lengths[3], lengths[4]) < 20 {
		t.Errorf("%d none, %v", none, lengths)
	}
}

// P19.1, P19.2: of grammars of but so many derivations a word is found just if two of these lead to it.
func TestFinite(t *testing.T) {
	r := sample.Roll(263)
	found, none := 0, 0
	for range 3000 {
		g := r.Finite()
		all := strs.Of()
		var want []int
		ok, many := false, 0
		var goOn func(form, rules []int)
		goOn = func(form, rules []int) {
			w, at := deriv.Lead(form)
			if at < 0 {
				many++
				// Derivations are gone through one by one, so that one word that comes twice has two.
				if !all.Add(w) && len(w) <= 5 && (!ok || len(w) < len(want) || len(w) == len(want) && strs.Compare(w, want) < 0) {
					want, ok = w, true
				}
				return
			}
			lo, hi := gram.Rules(g, form[at])
			for rule := lo; rule < hi && many < 3000; rule++ {
				next, _ := deriv.Step(g, form, rule)
				goOn(next, append(rules, rule))
			}
		}
		if goOn([]int{0}, nil); many >= 3000 {
			continue
		}
		if ok {
			isFound(t, g, 5, api.MaxBudget, want)
			found++
		} else {
			isAnswer(t, g, 5, api.MaxBudget, ambig.None)
			none++
		}
	}
	if found < 500 || none < 1000 {
		t.Errorf("%d found, %d times none", found, none)
	}
}

// P19.1: from some budget on each one has the same answer, and so have more terminals, if a word was found; below it none is answered.
func TestBudgets(t *testing.T) {
	r := sample.Roll(269)
	var seen [2]int
	for range 400 {
		g := r.Grammar()
		most := r.Of(6) - 1
		p, answer := ambig.Find(g, most, api.MaxBudget)
		from := sort.Search(api.MaxBudget, func(budget int) bool {
			_, one := ambig.Find(g, most, budget)
			return one != ambig.Spent
		})
		for _, budget := range []int{math.MinInt, -1, 0, from / 3, from / 2, from - 2, from - 1} {
			if max(budget, 0) < from {
				isAnswer(t, g, most, budget, ambig.Spent)
			}
		}
		for _, budget := range []int{from, from + 1, from * 2, api.MaxBudget, api.MaxBudget + 1, math.MaxInt} {
			if answer != ambig.Found {
				isAnswer(t, g, most, budget, answer)
				continue
			}
			for more := most; more <= most+4; more++ {
				q, again := ambig.Find(g, more, budget)
				if again != answer || !slices.Equal(p.Word, q.Word) || !slices.Equal(p.A, q.A) || !slices.Equal(p.B, q.B) {
					t.Fatalf("%s%d, %d: %v, want %v", gram.Print(g), more, budget, q, p)
				}
			}
		}
		seen[answer]++
	}
	if seen[0] < 50 || seen[1] < 100 {
		t.Errorf("%v", seen)
	}
}

// middling is a right grammar of 8 variables, 6 terminals and 24 rules of up to 8 symbols.
func middling(r *sample.Roll) api.Grammar {
	for {
		g := api.Grammar{Terms: []string{"a", "b", "c", "d", "e", "f"}}
		for v := range 8 {
			g.Vars = append(g.Vars, sample.Name(v))
		}
		most := 1 + r.Of(8)
		for rule := range 24 {
			right := make([]int, r.Of(most+1))
			for i := range right {
				right[i] = r.Symbol(g)
			}
			g.Rules = append(g.Rules, api.Rule{Left: rule / 3, Right: right})
		}
		if gram.Right(g) {
			return g
		}
	}
}

// P19.1: the greatest budget is enough for grammars of up to 8 variables, 6 terminals and 24 rules of up to 8 symbols, and words of up to 4 terminals.
func TestEnough(t *testing.T) {
	r := sample.Roll(271)
	var seen [2]int
	for range 1500 {
		g := middling(&r)
		_, answer := ambig.Find(g, 4, api.MaxBudget)
		if answer == ambig.Spent {
			t.Fatal(gram.Print(g))
		}
		seen[answer]++
	}
	if seen[0] < 100 || seen[1] < 100 {
		t.Errorf("%v", seen)
	}
	// All lists of terminals are words, each of but one tree, and there are as many symbols as there may be, or nearly so.
	var text strings.Builder
	text.WriteString("s =")
	for _, s := range "abcdef" {
		text.WriteString(" '" + string(s) + "' n n n n n n s |")
	}
	text.WriteString(" ; n = ;")
	for i := range 6 {
		text.WriteString(" v" + strconv.Itoa(i) + " = s s s s s s s s | n n n n n n n n")
		if i < 4 {
			text.WriteString(" | 'a' 'a' 'a' 'a' 'a' 'a' 'a' 'a'")
		}
		text.WriteString(" ;")
	}
	g := sample.Load(text.String())
	if len(g.Vars) != 8 || len(g.Terms) != 6 || len(g.Rules) != 24 {
		t.Fatalf("%d variables, %d terminals, %d rules", len(g.Vars), len(g.Terms), len(g.Rules))
	}
	isAnswer(t, g, 4, api.MaxBudget, ambig.None)
}

// P19.1, P19.2: great grammars.
func TestGreat(t *testing.T) {
	r := sample.Roll(277)
	var seen [3]int
	for range 500 {
		g := r.Great()
		if less, _, ok := useful.Reduce(g); ok && r.Of(4) > 0 {
			g = less
		}
		p, answer := ambig.Find(g, 3, 100000)
		seen[answer]++
		if answer == ambig.Spent {
			continue
		}
		w, ok := first(g, 3)
		if ok != (answer == ambig.Found) || !slices.Equal(w, p.Word) {
			t.Fatalf("%s%v, %d, want %v", gram.Print(g), p, answer, w)
		}
		if answer == ambig.Found {
			isFound(t, g, 3, 100000, w)
		}
	}
	if seen[ambig.None] < 200 || seen[ambig.Found] < 30 {
		t.Errorf("%v", seen)
	}
}

// Rule 6: names and weights have no part in it, nor what was called ahead.
func TestSameAgain(t *testing.T) {
	r := sample.Roll(281)
	for range 600 {
		g := r.Grammar()
		h := sample.Renamed(g)
		for _, budget := range []int{r.Of(40), r.Of(400), r.Of(4000)} {
			p, one := ambig.Find(g, 4, budget)
			q, two := ambig.Find(h, 4, budget)
			if one != two || !slices.Equal(p.Word, q.Word) || !slices.Equal(p.A, q.A) || !slices.Equal(p.B, q.B) {
				t.Fatalf("%s%d: %v, %d, and %v, %d", gram.Print(g), budget, p, one, q, two)
			}
		}
	}
}
