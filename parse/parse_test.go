package parse_test

import (
	"reflect"
	"slices"
	"strings"
	"testing"

	"accidence/api"
	"accidence/gram"
	"accidence/parse"
	"accidence/plan"
	"accidence/sample"
)

// usual is options by which small grammars are decided, if they are by any.
var usual = plan.Options{K: 3, Budget: 10000, Deep: 8, Places: 400, States: 100}

// fork is a grammar that is decided by an automaton alone.
const fork = "s = a 'b' | b 'c' ; a = 'a' a | ; b = 'a' b | ;"

// wide is a grammar of a variable that vanishes by 10000 steps, as often as a rule has symbols, at each terminal.
const wide = "s = t t t t t t t t t t t t t t t t t t t t t t 'a' s | 'b' ; t = u u u u u u u u u ; u = v v v v v v v v v v ; v = w w w w w w w w w w ; w = x x x x x x x x x x ; x = ;"

// word is terminals by their texts; of others it has the number that is behind all.
func word(g api.Grammar, s string) []int {
	var w []int
	for _, text := range strings.Fields(s) {
		at := slices.Index(g.Terms, text)
		if at < 0 {
			at = len(g.Terms)
		}
		w = append(w, at)
	}
	return w
}

// P21.1: words, and ones that are none, of plans that decide by no terminal, by some, and by an automaton.
func TestRun(t *testing.T) {
	const pair, twice = "s = 'a' s 'b' | 'c' ;", "s = 'a' s | 'a' ;"
	for _, c := range []struct {
		text, word string
		want       parse.Result
	}{
		{pair, "a c b", parse.Result{Ok: true, Rules: []int{0, 1}, At: 3, Steps: 5}},
		{pair, "c", parse.Result{Ok: true, Rules: []int{1}, At: 1, Steps: 2}},
		{pair, "a a c b b", parse.Result{Ok: true, Rules: []int{0, 0, 1}, At: 5, Steps: 8}},
		// The end comes where a terminal must, or where no rule is told.
		{pair, "a c", parse.Result{At: 2, Steps: 5}}, {pair, "a", parse.Result{At: 1, Steps: 3}}, {pair, "", parse.Result{Steps: 1}},
		// Another terminal comes where one must, or where no rule is told; and one that is none of the grammar's.
		{pair, "a c c", parse.Result{At: 2, Steps: 5}}, {pair, "a b b", parse.Result{At: 1, Steps: 3}}, {pair, "a x", parse.Result{At: 1, Steps: 3}}, {pair, "a c x", parse.Result{At: 2, Steps: 5}},
		// More comes than there may be.
		{pair, "c b", parse.Result{At: 1, Steps: 2}}, {pair, "a c b b", parse.Result{At: 3, Steps: 5}},
		{twice, "a", parse.Result{Ok: true, Rules: []int{1}, At: 1, Steps: 2}}, {twice, "a a a", parse.Result{Ok: true, Rules: []int{0, 0, 1}, At: 3, Steps: 6}}, {twice, "a a b", parse.Result{At: 1, Steps: 3}},
		{fork, "a a a c", parse.Result{Ok: true, Rules: []int{1, 4, 4, 4, 5}, At: 4, Steps: 9}}, {fork, "b", parse.Result{Ok: true, Rules: []int{0, 3}, At: 1, Steps: 3}}, {fork, "a a a", parse.Result{Steps: 1}}, {fork, "a a b c", parse.Result{At: 3, Steps: 7}},
		{"s = t t ; t = 'a' u ; u = ;", "a a", parse.Result{Ok: true, Rules: []int{0, 1, 2, 1, 2}, At: 2, Steps: 7}}, {"s = t t ; t = 'a' u ; u = ;", "a", parse.Result{At: 1, Steps: 6}},
		{"s = ;", "", parse.Result{Ok: true, Rules: []int{0}, Steps: 1}}, {"s = ;", "a", parse.Result{Steps: 1}},
		// What vanishes again at one place takes its steps again.
		{"s = t t 'a' t ; t = u u ; u = ;", "a", parse.Result{Ok: true, Rules: []int{0, 1, 2, 2, 1, 2, 2, 1, 2, 2}, At: 1, Steps: 11}}, {"s = t t 'a' t ; t = u u ; u = ;", "", parse.Result{Steps: 8}},
		// The rules are the plan's grammar's.
		{"s = u s | 'a' t | 'b' ; u = u 'a' ; t = s | 'c' ;", "a a c", parse.Result{Ok: true, Rules: []int{0, 2, 0, 3}, At: 3, Steps: 7}},
	} {
		g := sample.Load(c.text)
		if got := parse.Run(plan.New(g, usual), word(g, c.word)); !reflect.DeepEqual(got, c.want) {
			t.Errorf("%s%s: %v, want %v", c.text, c.word, got, c.want)
		}
	}
}

// P21.1: there is nothing if the plan isn't clean.
func TestNotClean(t *testing.T) {
	for _, c := range []struct {
		text    string
		o       plan.Options
		verdict int
	}{
		{"s = 'a' s | 'b' ;", usual, plan.Clean}, {"s = 'a' s | 'b' ;", plan.Options{}, plan.Unknown},
		{fork, plan.Options{K: 2, Budget: 10000}, plan.Clash}, {"s = s 'a' | 'b' ;", usual, plan.Clash},
		{"s = s 'a' ;", usual, plan.Empty}, {strings.Replace(wide, "u u u u", "u u u u u u u u", 1), usual, plan.Unknown},
	} {
		g := sample.Load(c.text)
		p := plan.New(g, c.o)
		if p.Verdict() != c.verdict {
			t.Fatalf("%s: %d", c.text, p.Verdict())
		}
		for _, s := range []string{"", "b", "a b", "a c"} {
			got := parse.Run(p, word(g, s))
			if c.verdict != plan.Clean && !reflect.DeepEqual(got, parse.Result{}) || c.verdict == plan.Clean && got.Steps == 0 {
				t.Errorf("%s%s: %v", c.text, s, got)
			}
		}
	}
}

// P21.1: there is nothing of more terminals than MaxWord, be they a word or none.
func TestMost(t *testing.T) {
	for _, s := range []string{"s = 'a' s | ;", "s = t u ; t = 'a' ; u = 'a' u | ;"} {
		p := plan.New(sample.Load(s), usual)
		w := make([]int, api.MaxWord)
		if got := parse.Run(p, w); !got.Ok || got.At != api.MaxWord || len(got.Rules) < api.MaxWord {
			t.Errorf("%s: %v, %d, %d", s, got.Ok, got.At, len(got.Rules))
		}
		for _, last := range []int{0, 1, -1} {
			if got := parse.Run(p, append(slices.Clone(w), last)); !reflect.DeepEqual(got, parse.Result{}) {
				t.Errorf("%s%d: %v", s, last, got)
			}
		}
		w[api.MaxWord-1] = 1
		if got := parse.Run(p, w); got.Ok || got.At != api.MaxWord-1 || got.Rules != nil {
			t.Errorf("%s: %v, %d", s, got.Ok, got.At)
		}
	}
}

// P21.1, P21.2: what vanishes by very many steps is told, and counted.
func TestWide(t *testing.T) {
	g := sample.Load(wide)
	p := plan.New(g, usual)
	// A variable that vanishes by so many steps 22 times, the start, and the terminal.
	const vanish, each = 1 + 9*(1+10*(1+10*(1+10))), 22*(1+9*(1+10*(1+10*(1+10)))) + 2
	if got, want := parse.Run(p, []int{0, 1}), each+2; !got.Ok || got.Steps != want || len(got.Rules) != want-2 || slices.Index(got.Rules[2:], 2) != vanish-1 {
		t.Errorf("%v, %d, %d, want %d", got.Ok, got.Steps, len(got.Rules), want)
	}
	// No word: more rules than could be told.
	w := make([]int, api.MaxWord)
	if got, want := parse.Run(p, w), api.MaxWord*each+1; got.Ok || got.At != api.MaxWord || got.Steps != want || got.Rules != nil || got.Steps > p.Bound(len(w)) {
		t.Errorf("%v, %d, %d, want %d", got.Ok, got.At, got.Steps, want)
	}
	w[len(w)-1] = 2
	if got, want := parse.Run(p, w), (api.MaxWord-1)*each+1; got.Ok || got.At != api.MaxWord-1 || got.Steps != want || got.Rules != nil {
		t.Errorf("%v, %d, %d, want %d", got.Ok, got.At, got.Steps, want)
	}
}

// Rule 4: what is told may be turned, and what is handed in stays as it is.
func TestNewMemory(t *testing.T) {
	g := sample.Load("s = 'a' s 'b' | 'c' ;")
	p := plan.New(g, usual)
	w := word(g, "a c b")
	first := parse.Run(p, w)
	first.Rules[0] = 7
	if got := parse.Run(p, w); !slices.Equal(got.Rules, []int{0, 1}) || !slices.Equal(w, []int{0, 2, 1}) {
		t.Errorf("%v, %v", got, w)
	}
}

// Rule 5: no terminals and an empty list of them are one.
func TestNoTerminals(t *testing.T) {
	for _, s := range []string{"s = 'a' s | ;", "s = 'a' ;"} {
		p := plan.New(sample.Load(s), usual)
		if a, b := parse.Run(p, nil), parse.Run(p, []int{}); !reflect.DeepEqual(a, b) || a.Steps == 0 {
			t.Errorf("%s: %v, %v", s, a, b)
		}
	}
}

// Rule 1: no call panics, whatever it is handed.
func TestNoPanic(t *testing.T) {
	lists := [][]int{nil, {api.End}, sample.Wild(), slices.Repeat(sample.Wild(), 400)}
	for _, n := range sample.Wild() {
		lists = append(lists, []int{n}, []int{0, n}, []int{n, 0})
	}
	plans := []*plan.Plan{nil, {}}
	for _, g := range sample.Odd() {
		if gram.Right(g) {
			plans = append(plans, plan.New(g, usual))
		}
	}
	for _, s := range []string{"s = 'a' s | ;", "s = 'a' s 'b' | 'c' ;", fork} {
		plans = append(plans, plan.New(sample.Load(s), usual))
	}
	for _, p := range plans {
		for _, w := range lists {
			if got := parse.Run(p, w); got.At < 0 || got.At > len(w) || !got.Ok && got.Rules != nil {
				t.Errorf("%v: %v", w, got)
			}
		}
	}
}
