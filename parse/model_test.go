package parse_test

import (
	"reflect"
	"slices"
	"testing"

	"accidence/api"
	"accidence/chart"
	"accidence/deriv"
	"accidence/gram"
	"accidence/parse"
	"accidence/plan"
	"accidence/sample"
)

// model is what is told of a word by a plan that is clean: step by step, as the chapter says.
func model(p *plan.Plan, w []int) parse.Result {
	g, _ := p.Grammar()
	var r parse.Result
	var rules []int
	stack := []int{0}
	for len(stack) > 0 {
		s := stack[0]
		stack = stack[1:]
		r.Steps++
		if !gram.IsVar(s) {
			if r.At == len(w) || w[r.At] != ^s {
				return r
			}
			r.At++
			continue
		}
		rule := p.Predict(s, w[r.At:])
		if rule == -1 {
			return r
		}
		rules = append(rules, rule)
		stack = slices.Concat(g.Rules[rule].Right, stack)
	}
	if r.At == len(w) {
		r.Ok, r.Rules = true, rules
	}
	return r
}

// isTold tells a fault if a word is told otherwise than by the model, or by other layers.
func isTold(t *testing.T, p *plan.Plan, w []int) parse.Result {
	t.Helper()
	g, _ := p.Grammar()
	got, want := parse.Run(p, w), model(p, w)
	if !reflect.DeepEqual(got, want) {
		t.Fatalf("%s%v: %v, want %v", gram.Print(g), w, got, want)
	}
	if got.Ok != chart.Accepts(g, w) || got.At > chart.Prefix(g, w) {
		t.Fatalf("%s%v: %v, %d go on", gram.Print(g), w, got, chart.Prefix(g, w))
	}
	if most := p.Bound(len(w)); got.Steps > most {
		t.Fatalf("%s%v: %v, bound by %d", gram.Print(g), w, got, most)
	}
	if own, e := deriv.Yield(g, []int{0}, got.Rules); got.Ok && (e != api.OK || !slices.Equal(own, w) || got.Steps != len(got.Rules)+len(w)) {
		t.Fatalf("%s%v: %v", gram.Print(g), w, got)
	}
	return got
}

// spoiled is terminals that differ from others by something.
func spoiled(r *sample.Roll, g api.Grammar, w []int) []int {
	at, t := r.Of(len(w)+1), r.Of(len(g.Terms)+1)
	switch to := min(at+1, len(w)); r.Of(4) {
	case 0:
		return slices.Concat(w[:at], []int{t}, w[at:])
	case 1:
		return slices.Concat(w[:at], w[to:])
	case 2:
		return slices.Concat(w[:at], []int{t}, w[to:])
	}
	return slices.Clone(w[:at])
}

// isOfChance tries words of chance, and spoiled ones, of a grammar whose plan is clean; of how many words, and of how many others.
func isOfChance(t *testing.T, r *sample.Roll, p *plan.Plan, times int) (int, int) {
	t.Helper()
	g, _ := p.Grammar()
	words, others := 0, 0
	for range times {
		rules := r.Derivation(g, []int{0})
		w, e := deriv.Yield(g, []int{0}, rules)
		if e != api.OK || len(w) > 60 {
			continue
		}
		// Each word has one derivation.
		if got := isTold(t, p, w); !got.Ok || !slices.Equal(got.Rules, rules) {
			t.Fatalf("%s%v: %v", gram.Print(g), w, got)
		}
		words++
		for range 3 {
			w = spoiled(r, g, w)
			if got := isTold(t, p, w); !got.Ok {
				others++
			}
		}
	}
	return words, others
}

// P21.1, P21.2: words of small grammars of chance, and spoiled ones.
func TestModel(t *testing.T) {
	r := sample.Roll(307)
	clean, words, others := 0, 0, 0
	ways := map[int]int{}
	for range 10000 {
		g := r.Grammar()
		p := plan.New(g, plan.Options{K: 1 + r.Of(3), Budget: 2000, Deep: r.Of(9), Places: 100, States: 30})
		if p.Verdict() != plan.Clean {
			if got := parse.Run(p, make([]int, r.Of(4))); !reflect.DeepEqual(got, parse.Result{}) {
				t.Fatalf("%s: %v", gram.Print(g), got)
			}
			continue
		}
		clean++
		for v := range g.Vars {
			ways[p.How(v)]++
		}
		a, b := isOfChance(t, &r, p, 8)
		words, others = words+a, others+b
	}
	if clean < 1000 || words < 8000 || others < 8000 || min(ways[plan.Looked], ways[plan.Single], ways[1], ways[2]) < 20 {
		t.Errorf("%d: %d, %d, %v", clean, words, others, ways)
	}
}

// P21.1, P21.2: words of great grammars, and spoiled ones.
func TestGreat(t *testing.T) {
	r := sample.Roll(311)
	clean, words, others := 0, 0, 0
	for range 1500 {
		p := plan.New(r.Great(), plan.Options{K: 2, Budget: 3000, Deep: 8, Places: 200, States: 50})
		if g, _ := p.Grammar(); p.Verdict() == plan.Clean && len(g.Rules) > 5 {
			clean++
			a, b := isOfChance(t, &r, p, 8)
			words, others = words+a, others+b
		}
	}
	if clean < 50 || words < 400 || others < 400 {
		t.Errorf("%d: %d, %d", clean, words, others)
	}
}

// P21.1: of finite grammars just the words are told to be ones, out of all lists of terminals.
func TestFinite(t *testing.T) {
	r := sample.Roll(313)
	tried := 0
	for range 3000 {
		g := r.Finite()
		p := plan.New(g, usual)
		own, _ := p.Grammar()
		forms := sample.Forms(own, []int{0})
		if p.Verdict() != plan.Clean || len(forms) == 0 {
			continue
		}
		tried++
		longest := 0
		for _, form := range forms {
			longest = max(longest, len(form))
		}
		for _, w := range lists(len(g.Terms), min(longest+1, 5)) {
			is := slices.ContainsFunc(forms, func(form []int) bool { return isForm(form, w) })
			if got := isTold(t, p, w); got.Ok != is {
				t.Fatalf("%s%v: %v", gram.Print(g), w, got)
			}
		}
	}
	if tried < 300 {
		t.Error(tried)
	}
}

// isForm tells whether a form is just some terminals.
func isForm(form, w []int) bool {
	return slices.EqualFunc(form, w, func(s, t int) bool { return s == ^t })
}

// lists is all lists of so many terminals, of up to n.
func lists(terms, n int) [][]int {
	all := [][]int{nil}
	for from, size := 0, 0; size < n; size++ {
		to := len(all)
		for _, w := range all[from:to] {
			for t := range terms {
				all = append(all, append(slices.Clone(w), t))
			}
		}
		from = to
	}
	return all
}

// Rule 6: words are told the same again, and so by plans of grammars with other names and weights.
func TestSameAgain(t *testing.T) {
	r := sample.Roll(317)
	for range 1000 {
		g := r.Useful()
		p, again := plan.New(g, usual), plan.New(sample.Renamed(g), usual)
		if p.Verdict() != plan.Clean {
			continue
		}
		w, _ := deriv.Yield(g, []int{0}, r.Derivation(g, []int{0}))
		a, b, c := parse.Run(p, w), parse.Run(p, w), parse.Run(again, w)
		if !reflect.DeepEqual(a, b) || !reflect.DeepEqual(a, c) {
			t.Fatalf("%s%v: %v, %v, %v", gram.Print(g), w, a, b, c)
		}
	}
}
