package useful_test

import (
	"math/big"
	"slices"
	"testing"

	"accidence/api"
	"accidence/deriv"
	"accidence/gram"
	"accidence/sample"
	"accidence/useful"
)

// size is how many terminals and steps a tree has, however many these are; nil: there is no tree.
type size struct{ terms, steps *big.Int }

// smallest is, for each symbol by its number behind the terminals', the size of its smallest tree: few terminals count more than few steps.
//
// A tree that is the smallest one needs no variable below itself; so those that are as high as there are variables are enough.
func smallest(g api.Grammar) []*size {
	list := make([]*size, len(g.Terms)+len(g.Vars))
	for t := range g.Terms {
		list[t] = &size{big.NewInt(1), big.NewInt(0)}
	}
	for range g.Vars {
		higher := slices.Clone(list)
		for _, r := range g.Rules {
			at := len(g.Terms) + r.Left
			if got := joined(g, r, list); got != nil && (higher[at] == nil || got.below(higher[at])) {
				higher[at] = got
			}
		}
		list = higher
	}
	return list
}

// joined is the size of a tree by a rule, of trees of these sizes; nil: one is missing.
func joined(g api.Grammar, r api.Rule, list []*size) *size {
	all := &size{big.NewInt(0), big.NewInt(1)}
	for _, s := range r.Right {
		one := list[numberOf(g, s)]
		if one == nil {
			return nil
		}
		all.terms.Add(all.terms, one.terms)
		all.steps.Add(all.steps, one.steps)
	}
	return all
}

// numberOf is a symbol's number behind the terminals'.
func numberOf(g api.Grammar, s int) int {
	if s < 0 {
		return -s - 1
	}
	return len(g.Terms) + s
}

// below tells whether a size is less than another one.
func (a *size) below(b *size) bool {
	if c := a.terms.Cmp(b.terms); c != 0 {
		return c < 0
	}
	return a.steps.Cmp(b.steps) < 0
}

// standIn is, of each variable, whether it stands in a tree of the start: one of trees that lead from the start to it, and others beside.
func standIn(g api.Grammar, trees []*size) []bool {
	all := make([]bool, len(g.Vars))
	whole := make([]bool, len(g.Rules))
	for i, r := range g.Rules {
		whole[i] = joined(g, r, trees) != nil
	}
	for v := range all {
		holds := make([]bool, len(g.Vars))
		holds[v] = trees[numberOf(g, v)] != nil
		for range g.Vars {
			for i, r := range g.Rules {
				holds[r.Left] = holds[r.Left] || whole[i] && slices.ContainsFunc(r.Right, func(s int) bool { return s >= 0 && holds[s] })
			}
		}
		all[v] = holds[0]
	}
	return all
}

// marksAsTold tells a fault if marks aren't those that the trees show which there are.
func marksAsTold(t *testing.T, g api.Grammar, trees []*size) {
	t.Helper()
	words, empty, use := useful.Productive(g), useful.Nullable(g), useful.Useful(g)
	if len(words) != len(g.Vars) || len(empty) != len(g.Vars) || len(use) != len(g.Vars) {
		t.Fatalf("%s%d, %d, %d", gram.Print(g), len(words), len(empty), len(use))
	}
	stand := standIn(g, trees)
	for v := range g.Vars {
		one := trees[numberOf(g, v)]
		if words[v] != (one != nil) || empty[v] != (one != nil && one.terms.Sign() == 0) || use[v] != stand[v] {
			t.Fatalf("%s%d: %v, %v, %v", gram.Print(g), v, words[v], empty[v], use[v])
		}
	}
}

// costAsTold tells a fault if costs aren't those of the smallest trees, or the best rules don't lead there, and is how many variables are too far.
func costAsTold(t *testing.T, g api.Grammar, trees []*size) int {
	t.Helper()
	cost, best := useful.Cost(g)
	if len(cost) != len(g.Vars) || len(best) != len(g.Vars) {
		t.Fatalf("%s%v, %v", gram.Print(g), cost, best)
	}
	far := 0
	for v := range g.Vars {
		one := trees[numberOf(g, v)]
		if one == nil || one.terms.Cmp(big.NewInt(useful.Far)) >= 0 {
			if cost[v] != useful.Far || best[v] != -1 {
				t.Fatalf("%s%d: %d, %d, but it has no word, or a long one", gram.Print(g), v, cost[v], best[v])
			}
			if one != nil {
				far++
			}
			continue
		}
		from, to := gram.Rules(g, v)
		if best[v] < from || best[v] >= to || int64(cost[v]) != one.terms.Int64() || sum(g, g.Rules[best[v]].Right, cost) != cost[v] {
			t.Fatalf("%s%d: %d, %d, want %v", gram.Print(g), v, cost[v], best[v], one.terms)
		}
	}
	if v := round(g, best); v >= 0 {
		t.Fatalf("%s%d: going on with %v doesn't end", gram.Print(g), v, best)
	}
	return far
}

// sum is what a form costs.
func sum(g api.Grammar, form, cost []int) int {
	all := 0
	for _, s := range form {
		if s < 0 {
			all++
		} else {
			all += cost[s]
		}
	}
	return all
}

// round is a variable with a best rule from which going on with best rules doesn't end, or comes to one without; or -1.
func round(g api.Grammar, best []int) int {
	ends := make([]bool, len(g.Vars))
	for range g.Vars {
		for v, rule := range best {
			ends[v] = ends[v] || rule >= 0 && !slices.ContainsFunc(g.Rules[rule].Right, func(s int) bool { return s >= 0 && !ends[s] })
		}
	}
	for v, rule := range best {
		if rule >= 0 && !ends[v] {
			return v
		}
	}
	return -1
}

// shortestAsTold tells a fault if derivations aren't those by best rules, or there are none though the fewest steps are few enough; it is how many there are, and how many have too many steps.
func shortestAsTold(t *testing.T, g api.Grammar, trees []*size) (fine, many int) {
	t.Helper()
	cost, best := useful.Cost(g)
	for v := range g.Vars {
		rules, ok := useful.Shortest(g, v)
		if best[v] < 0 || trees[numberOf(g, v)].steps.Cmp(big.NewInt(api.MaxSteps)) > 0 {
			if ok || len(rules) > 0 {
				t.Fatalf("%s%d: %d steps", gram.Print(g), v, len(rules))
			}
			if best[v] >= 0 {
				many++
			}
			continue
		}
		fine++
		word, e := deriv.Yield(g, []int{v}, rules)
		if !ok || e != api.OK || len(word) != cost[v] || int64(len(rules)) != trees[numberOf(g, v)].steps.Int64() {
			t.Fatalf("%s%d: %v, %v, %d, want %v", gram.Print(g), v, rules, ok, e, trees[numberOf(g, v)])
		}
		for _, rule := range rules {
			if rule != best[g.Rules[rule].Left] {
				t.Fatalf("%s%d: by rule %d, but %v", gram.Print(g), v, rule, best)
			}
		}
	}
	return fine, many
}

// heap is a right grammar of variables each of which mostly leads to some of those behind it, so that words or derivations come to be long.
func heap(r *sample.Roll) api.Grammar {
	for {
		g := api.Grammar{Terms: []string{"a", "b"}[:r.Of(3)]}
		n := 2 + r.Of(api.MaxVars-1)
		for v := range n {
			g.Vars = append(g.Vars, sample.Name(v))
			for range 1 + r.Of(2) {
				right := make([]int, 2+r.Of(4))
				for i := range right {
					right[i] = min(v+1+r.Of(3), n-1)
					if r.Of(40) == 0 {
						right[i] = r.Symbol(g)
					}
				}
				g.Rules = append(g.Rules, api.Rule{Left: v, Right: right})
			}
		}
		last := &g.Rules[len(g.Rules)-1]
		if last.Right = nil; len(g.Terms) > 0 && r.Of(2) == 0 {
			last.Right = []int{^0}
		}
		if gram.Right(g) {
			return g
		}
	}
}

// P9.1: every call answers as said, of grammars of chance: small ones, great ones, and such as have long words.
func TestAsTold(t *testing.T) {
	r := sample.Roll(19)
	fine, far, many := 0, 0, 0
	for i := range 6000 {
		g := r.Grammar()
		switch {
		case i%12 == 0:
			g = r.Great()
		case i%12 == 1:
			g = heap(&r)
		}
		trees := smallest(g)
		marksAsTold(t, g, trees)
		far += costAsTold(t, g, trees)
		few, more := shortestAsTold(t, g, trees)
		fine, many = fine+few, many+more
	}
	if fine < 10000 || far < 100 || many < 1000 {
		t.Errorf("%d derivations, %d words that are too long, %d derivations that are", fine, far, many)
	}
}

// P9.1: what is gone through on a way from the start to a word is of use.
func TestWaysToWords(t *testing.T) {
	r := sample.Roll(37)
	ended := 0
	for range 20000 {
		g := r.Grammar()
		form, rules := []int{0}, []int{}
		for at := 0; at >= 0 && len(rules) < 30; {
			from, to := gram.Rules(g, form[at])
			rules = append(rules, from+r.Of(to-from))
			form, _ = deriv.Step(g, form, rules[len(rules)-1])
			_, at = deriv.Lead(form)
		}
		word, e := deriv.Yield(g, []int{0}, rules)
		if e != api.OK {
			continue
		}
		ended++
		words, empty, use := useful.Productive(g), useful.Nullable(g), useful.Useful(g)
		for _, rule := range rules {
			if left := g.Rules[rule].Left; !words[left] || !use[left] {
				t.Fatalf("%s%d: %v, %v, %v", gram.Print(g), left, rules, words, use)
			}
		}
		if cost, _ := useful.Cost(g); cost[0] > len(word) || len(word) == 0 && !empty[0] {
			t.Fatalf("%s%v: %v, %v", gram.Print(g), word, cost, empty)
		}
	}
	if ended < 5000 {
		t.Errorf("%d only", ended)
	}
}

// P9.1, P9.2: what is left of a grammar is just its rules of use, and what stands in them, with other numbers; it is right, and all of it is of use.
func TestReduceAsTold(t *testing.T) {
	r := sample.Roll(41)
	fine, none, less := 0, 0, 0
	for i := range 6000 {
		g := r.Grammar()
		if i%6 == 0 {
			g = r.Great()
		}
		trees := smallest(g)
		got, were, ok := useful.Reduce(g)
		if ok != (trees[numberOf(g, 0)] != nil) {
			t.Fatalf("%s%v", gram.Print(g), ok)
		}
		if !ok {
			none++
			if !gram.Same(got, api.Grammar{}) || len(were) > 0 {
				t.Fatalf("%s%v, %v", gram.Print(g), got, were)
			}
			continue
		}
		isLeft(t, g, got, were, trees)
		again, same, ok := useful.Reduce(got)
		if !gram.Right(got) || slices.Contains(useful.Useful(got), false) || !ok || !gram.Same(again, got) || len(same) != len(were) {
			t.Fatalf("%s%s%v", gram.Print(g), gram.Print(got), were)
		}
		fine++
		if len(got.Rules) < len(g.Rules) {
			less++
		}
	}
	if fine < 2000 || none < 500 || less < 1000 {
		t.Errorf("%d grammars, %d of which less is left, %d of which nothing is", fine, less, none)
	}
}

// isLeft tells a fault if a grammar isn't what is left of another one.
func isLeft(t *testing.T, g, got api.Grammar, were []int, trees []*size) {
	t.Helper()
	var vars []int
	for v, stands := range standIn(g, trees) {
		if stands {
			vars = append(vars, v)
		}
	}
	if !slices.Equal(were, vars) || len(got.Vars) != len(vars) {
		t.Fatalf("%s%s%v, want %v", gram.Print(g), gram.Print(got), were, vars)
	}
	var rules []api.Rule
	for _, r := range g.Rules {
		if slices.Contains(vars, r.Left) && joined(g, r, trees) != nil {
			rules = append(rules, r)
		}
	}
	same := func(a, b api.Rule) bool {
		return got.Vars[a.Left] == g.Vars[b.Left] && a.Weight == b.Weight && slices.EqualFunc(a.Right, b.Right, func(s, o int) bool { return gram.Name(got, s) == gram.Name(g, o) })
	}
	if !slices.EqualFunc(got.Rules, rules, same) {
		t.Fatalf("%s%s", gram.Print(g), gram.Print(got))
	}
}
