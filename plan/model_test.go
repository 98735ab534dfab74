package plan_test

import (
	"slices"
	"testing"

	"accidence/ambig"
	"accidence/api"
	"accidence/deriv"
	"accidence/dfa"
	"accidence/first"
	"accidence/gram"
	"accidence/left"
	"accidence/plan"
	"accidence/sample"
	"accidence/table"
	"accidence/useful"
)

// model is what a plan is to answer, by the layers below it, each variable by itself.
type model struct {
	g        api.Grammar
	tables   []*table.Table
	how      []int
	automata []dfa.Dfa
	most     int
}

// newModel is the model of a grammar all of which is of use.
func newModel(g api.Grammar, o plan.Options) *model {
	m := &model{g: g, most: max(1, min(o.K, api.MaxK)), automata: make([]dfa.Dfa, len(g.Vars))}
	for k := 1; k <= m.most; k++ {
		sets, ok := first.Of(g, k, o.Budget)
		if !ok {
			break
		}
		m.tables = append(m.tables, table.Of(g, sets))
	}
	for v := range g.Vars {
		m.how = append(m.how, m.decide(v, o))
	}
	return m
}

// decide is how a variable is decided.
func (m *model) decide(v int, o plan.Options) int {
	if from, to := gram.Rules(m.g, v); to-from == 1 {
		return plan.Single
	}
	for i, made := range m.tables {
		if made.Clear(v) {
			return i + 1
		}
	}
	d, ok := dfa.Build(m.g, v, o.Deep, o.Places, o.States)
	if m.automata[v] = d; ok {
		return plan.Looked
	}
	return plan.Open
}

// verdict is what is known.
func (m *model) verdict() int {
	open := slices.Contains(m.how, plan.Open)
	if open && len(m.tables) == m.most {
		return plan.Clash
	}
	if open || m.widest() > api.MaxWide {
		return plan.Unknown
	}
	return plan.Clean
}

// widest is by how many steps a variable vanishes at most, if none stands below itself.
func (m *model) widest() int {
	most := 0
	if len(m.g.Vars) <= 6 {
		for v := range m.g.Vars {
			most = max(most, m.vanish(v, nil))
		}
		return most
	}
	// Going through all trees takes too long. Where all is decided none stands below itself anyway, so that no tree is higher than there are variables.
	steps := make([]int, len(m.g.Vars))
	for range m.g.Vars {
		for _, r := range m.g.Rules {
			steps[r.Left] = max(steps[r.Left], sum(r.Right, func(v int) int { return steps[v] }))
		}
		most = min(slices.Max(steps), 2*api.MaxWide)
	}
	return most
}

// vanish is by how many steps a variable vanishes at most below some others, of which none is to come again; 0: it doesn't.
func (m *model) vanish(v int, above []int) int {
	if slices.Contains(above, v) {
		return 0
	}
	most := 0
	above = append(slices.Clone(above), v)
	from, to := gram.Rules(m.g, v)
	for _, r := range m.g.Rules[from:to] {
		most = max(most, sum(r.Right, func(s int) int { return m.vanish(s, above) }))
	}
	return most
}

// sum is by how many steps a rule vanishes whose variables do by so many; 0: it doesn't.
func sum(right []int, vanish func(v int) int) int {
	steps := 1
	for _, s := range right {
		if !gram.IsVar(s) || vanish(s) == 0 {
			return 0
		}
		steps = min(steps+vanish(s), 2*api.MaxWide)
	}
	return steps
}

// predict is by which rule a variable is to be replaced.
func (m *model) predict(v int, rest []int) int {
	switch how := m.how[v]; {
	case how > 0:
		if rules := m.tables[how-1].Find(v, rest); len(rules) == 1 {
			return rules[0]
		}
	case how == plan.Single:
		rule, _ := gram.Rules(m.g, v)
		return rule
	case how == plan.Looked:
		rule, _ := m.automata[v].Run(rest)
		return rule
	}
	return -1
}

// options is options of chance.
func options(r *sample.Roll) plan.Options {
	o := plan.Options{K: r.Of(7) - 1, Budget: []int{-1, 0, r.Of(10), r.Of(60), r.Of(400), api.MaxBudget}[r.Of(6)]}
	if r.Of(3) > 0 {
		o.Deep, o.Places, o.States = r.Of(10)-1, r.Of(60), r.Of(12)
	}
	if r.Of(3) == 0 {
		o.Deep, o.Places, o.States = api.MaxStack, 400, 100
	}
	return o
}

// rest is terminals of chance, few of which are none.
func rest(r *sample.Roll, g api.Grammar) []int {
	list := make([]int, r.Of(8))
	for i := range list {
		list[i] = r.Of(max(len(g.Terms), 1))
		if r.Of(20) == 0 {
			list[i] = r.Of(len(g.Terms)+3) - 2
		}
	}
	return list
}

// isModel tells a fault if a plan answers otherwise than its model.
func isModel(t *testing.T, r *sample.Roll, m *model, p *plan.Plan, o plan.Options) {
	t.Helper()
	if p.Verdict() != m.verdict() {
		t.Fatalf("%s%v: %d, want %d", gram.Print(m.g), o, p.Verdict(), m.verdict())
	}
	for k := range 6 {
		made := p.Table(k)
		if want := 1 <= k && k <= len(m.tables); (made != nil) != want || want && !sameRows(m.g, made, m.tables[k-1]) {
			t.Fatalf("%s%v: %d: %v", gram.Print(m.g), o, k, made)
		}
	}
	for v, how := range m.how {
		if p.How(v) != how {
			t.Fatalf("%s%v: %d: %d, want %d", gram.Print(m.g), o, v, p.How(v), how)
		}
		for range 5 {
			next := rest(r, m.g)
			if got, want := p.Predict(v, next), m.predict(v, next); got != want {
				t.Fatalf("%s%v: %d ahead of %v: %d, want %d", gram.Print(m.g), o, v, next, got, want)
			}
		}
	}
}

// P20.1: plans of grammars of chance, not all of which is of use, by options of chance.
func TestModel(t *testing.T) {
	r := sample.Roll(283)
	var seen [4]int
	ways := map[int]int{}
	for range 10000 {
		g, o := r.Grammar(), options(&r)
		p := plan.New(g, o)
		less, were, ok := useful.Reduce(g)
		own, list := p.Grammar()
		if !gram.Same(own, less) || !slices.Equal(list, were) {
			t.Fatalf("%s: %s, %v", gram.Print(g), gram.Print(own), list)
		}
		seen[p.Verdict()]++
		if !ok {
			if p.Verdict() != plan.Empty || p.How(0) != plan.Open || p.Table(1) != nil || p.Predict(0, nil) != -1 {
				t.Fatalf("%s: %d", gram.Print(g), p.Verdict())
			}
			continue
		}
		m := newModel(less, o)
		isModel(t, &r, m, p, o)
		for _, how := range m.how {
			ways[how]++
		}
	}
	if slices.Min(seen[:]) < 500 || min(ways[plan.Looked], ways[plan.Open], ways[plan.Single], ways[1]) < 300 || ways[2] < 50 || min(ways[3], ways[4]) < 3 {
		t.Errorf("%v, %v", seen, ways)
	}
}

// P20.1: plans of great grammars.
func TestGreat(t *testing.T) {
	r := sample.Roll(293)
	ways := map[int]int{}
	for range 400 {
		g, o := r.Great(), plan.Options{K: 1 + r.Of(2), Budget: 3000, Deep: 8, Places: 200, States: 50}
		less, _, ok := useful.Reduce(g)
		p := plan.New(g, o)
		if !ok {
			continue
		}
		m := newModel(less, o)
		isModel(t, &r, m, p, o)
		for _, how := range m.how {
			ways[how]++
		}
	}
	if min(ways[plan.Looked], ways[plan.Open], ways[plan.Single], ways[1]) < 30 {
		t.Errorf("%v", ways)
	}
}

// goAlong goes along a derivation, and tells a fault if a variable that is decided is to be replaced by another rule. It is of how many steps that was told.
func goAlong(t *testing.T, p *plan.Plan, g api.Grammar, rules []int) int {
	t.Helper()
	all, e := deriv.Yield(g, []int{0}, rules)
	if e != api.OK {
		return 0
	}
	told := 0
	for at, form := 0, []int{0}; at < len(rules); at++ {
		lead, place := deriv.Lead(form)
		if v := form[place]; p.How(v) != plan.Open {
			if got := p.Predict(v, all[len(lead):]); got != rules[at] {
				t.Fatalf("%s%v: at %d %d is told of %d, which is %d", gram.Print(g), rules, at, got, v, p.How(v))
			}
			told++
		} else if got := p.Predict(v, all[len(lead):]); got != -1 {
			t.Fatalf("%s%v: at %d %d is told of %d, which is open", gram.Print(g), rules, at, got, v)
		}
		form, _ = deriv.Step(g, form, rules[at])
	}
	return told
}

// P20.2: at each step of a derivation a variable that is decided is replaced by the rule that is told.
func TestDerivations(t *testing.T) {
	r := sample.Roll(307)
	told := 0
	for range 5000 {
		p := plan.New(r.Useful(), options(&r))
		g, _ := p.Grammar()
		for range 4 {
			told += goAlong(t, p, g, r.Derivation(g, []int{0}))
		}
	}
	if told < 10000 {
		t.Errorf("%d steps", told)
	}
	for range 300 {
		if g, _, ok := useful.Reduce(r.Great()); ok {
			p := plan.New(g, plan.Options{K: 2, Budget: 3000, Deep: 8, Places: 200, States: 50})
			goAlong(t, p, g, r.Derivation(g, []int{0}))
		}
	}
}

// P20.3: of a clean plan no variable begins with itself, and no word has more than one tree; a variable of more rules that begins with itself is never decided.
func TestClean(t *testing.T) {
	r := sample.Roll(311)
	clean, again := 0, 0
	for range 6000 {
		p := plan.New(r.Useful(), options(&r))
		g, _ := p.Grammar()
		circles := left.Recursive(g)
		for v, circle := range circles {
			if from, to := gram.Rules(g, v); circle && to-from > 1 {
				if again++; p.How(v) != plan.Open {
					t.Fatalf("%s%d: %d", gram.Print(g), v, p.How(v))
				}
			}
		}
		if p.Verdict() != plan.Clean {
			continue
		}
		clean++
		if slices.Contains(circles, true) {
			t.Fatalf("%s: %v", gram.Print(g), circles)
		}
		if found, answer := ambig.Find(g, 5, 30000); answer == ambig.Found {
			t.Fatalf("%s: %v", gram.Print(g), found)
		}
	}
	if clean < 1000 || again < 500 {
		t.Errorf("%d clean, %d begin with themselves", clean, again)
	}
}

// run goes through terminals by what a plan tells, and is by how many steps, and whether they are a word.
func run(p *plan.Plan, g api.Grammar, w []int) (int, bool) {
	steps := 0
	for todo := []int{0}; len(todo) > 0; {
		steps++
		s := todo[len(todo)-1]
		todo = todo[:len(todo)-1]
		if !gram.IsVar(s) {
			if len(w) == 0 || w[0] != ^s {
				return steps, false
			}
			w = w[1:]
			continue
		}
		rule := p.Predict(s, w)
		if rule < 0 {
			return steps, false
		}
		for _, next := range slices.Backward(g.Rules[rule].Right) {
			todo = append(todo, next)
		}
	}
	return steps, len(w) == 0
}

// isBound tells a fault if going through some terminals takes more steps than are told. It is whether they are a word.
func isBound(t *testing.T, p *plan.Plan, g api.Grammar, w []int) bool {
	t.Helper()
	steps, ok := run(p, g, w)
	if most := p.Bound(len(w)); steps > most {
		t.Fatalf("%s%v: %d steps, but the bound is %d", gram.Print(g), w, steps, most)
	}
	return ok
}

// P20.1: going through terminals by a clean plan, a word or not, takes no more steps than the bound tells.
func TestBoundOfChance(t *testing.T) {
	r := sample.Roll(313)
	clean, words := 0, 0
	for range 8000 {
		p := plan.New(r.Useful(), plan.Options{K: 1 + r.Of(2), Budget: 10000, Deep: 8, Places: 200, States: 50})
		if p.Verdict() != plan.Clean {
			continue
		}
		clean++
		g, _ := p.Grammar()
		isBound(t, p, g, nil)
		for range 10 {
			isBound(t, p, g, rest(&r, g))
		}
		for range 4 {
			w, _ := deriv.Yield(g, []int{0}, r.Derivation(g, []int{0}))
			if !isBound(t, p, g, w) {
				t.Fatalf("%s%v: no word", gram.Print(g), w)
			}
			words++
			if len(w) > 0 {
				w[r.Of(len(w))] = r.Of(len(g.Terms))
				isBound(t, p, g, w)
			}
		}
	}
	if clean < 2000 || words < 8000 {
		t.Errorf("%d clean, %d words", clean, words)
	}
}

// P20.1: the bound holds where most vanishes, and where most leads to but one.
func TestBoundOfMany(t *testing.T) {
	chain := "s = v0 ; "
	for v := range 62 {
		chain += sample.Name(v) + " = " + sample.Name(v+1) + " ; "
	}
	const all = "v0 v3 v4 v5 v9 v11 v12"
	for _, text := range []string{
		"s = ;", "s = t ; t = u ; u = ;", "s = t ; t = u ; u = 'a' ;", "s = 'a' s | ;", "s = 'a' s 'b' | ;", "s = 'a' | 'b' s s ;", "s = 'b' s s | 'a' t t t ; t = ;",
		chain + "v62 = ;", chain + "v62 = 'a' ;", chain + "v62 = 'a' s | 'b' ;", chain + "v62 = 'a' s 'b' s | 'b' ;",
		"s = t t t t t t t t t t t t t t t t t t t t t t 'a' s | 'b' ; t = u u ; u = w w w ; w = ;", "s = 'a' s t t t t t t t t t t t t t t t t t t t t t t | 'b' ; t = u u ; u = w w w ; w = ;",
		"s = " + all + " ; " + sample.Doubled(13, 2, "", ""), "s = 'a' s t t | 'b' ; t = " + all + " ; " + sample.Doubled(13, 2, "", ""), "s = t t x ; x = 'a' t t t s | 'b' ; t = " + all + " ; " + sample.Doubled(13, 2, "", ""),
		"e = t x ; x = '+' t x | ; t = f y ; y = '*' f y | ; f = 'n' | '(' e ')' ;",
	} {
		g := sample.Load(text)
		p := plan.New(g, of(1, 10000))
		if p.Verdict() != plan.Clean {
			t.Fatalf("%s: %d", text, p.Verdict())
		}
		for n := range 6 {
			for a := range max(len(g.Terms), 1) {
				w := slices.Repeat([]int{a}, n*n)
				isBound(t, p, g, w)
				for b := range max(len(g.Terms), 1) {
					isBound(t, p, g, append(slices.Clone(w), slices.Repeat([]int{b}, n*n)...))
					isBound(t, p, g, append(slices.Clone(w), b))
				}
			}
		}
	}
}

// Rule 6: names and weights have no part in it, nor what was called ahead.
func TestSameAgain(t *testing.T) {
	r := sample.Roll(317)
	for range 1500 {
		g, o := r.Grammar(), options(&r)
		p, q := plan.New(g, o), plan.New(sample.Renamed(g), o)
		for v := range g.Vars {
			next := rest(&r, g)
			if p.How(v) != q.How(v) || p.Predict(v, next) != q.Predict(v, next) {
				t.Fatalf("%s%v: %d: %d, %d", gram.Print(g), o, v, p.How(v), q.How(v))
			}
		}
		if p.Verdict() != q.Verdict() || p.Bound(7) != q.Bound(7) {
			t.Fatalf("%s%v: %d, %d", gram.Print(g), o, p.Verdict(), q.Verdict())
		}
	}
}
