package gram_test

import (
	"math"
	"slices"
	"strings"
	"testing"

	"accidence/api"
	"accidence/gram"
)

var below = math.Copysign(0, -1)

// rule is a rule without a weight.
func rule(left int, right ...int) api.Rule { return api.Rule{Left: left, Right: right} }

// weighed is a rule with a weight.
func weighed(f float64, left int, right ...int) api.Rule {
	return api.Rule{Left: left, Right: right, Weight: f}
}

// grammar is a grammar whose terminals and variables are told between blanks.
func grammar(terms, vars string, rules ...api.Rule) api.Grammar {
	return api.Grammar{Terms: strings.Fields(terms), Vars: strings.Fields(vars), Rules: rules}
}

// plain is a right grammar: s = 'a' s t | %1.5 'b' ; t = | 'b' t ;
func plain() api.Grammar {
	return grammar("a b", "s t", rule(0, ^0, 0, 1), weighed(1.5, 0, ^1), rule(1), rule(1, ^1, 1))
}

// copied is a grammar in memory of its own.
func copied(g api.Grammar) api.Grammar {
	g.Terms, g.Vars, g.Rules = slices.Clone(g.Terms), slices.Clone(g.Vars), slices.Clone(g.Rules)
	for i := range g.Rules {
		g.Rules[i].Right = slices.Clone(g.Rules[i].Right)
	}
	return g
}

// names is so many names, each unlike the others.
func names(n int) []string {
	var list []string
	for i := range n {
		list = append(list, "v"+string([]byte{byte('a' + i/26), byte('a' + i%26)}))
	}
	return list
}

// P6.1: which symbols are variables.
func TestIsVar(t *testing.T) {
	for s, want := range map[int]bool{0: true, 1: true, 63: true, 64: true, math.MaxInt: true, -1: false, -2: false, -64: false, -65: false, math.MinInt: false} {
		if gram.IsVar(s) != want {
			t.Errorf("IsVar(%d)", s)
		}
	}
}

// P6.1: the numbers of each variable's rules, of one rule or more.
func TestRules(t *testing.T) {
	g := grammar("a b", "s t u v", rule(0, ^0), rule(1), rule(1, 0), rule(1, ^1), rule(2, 3), rule(3), rule(3, 3, 3))
	for v, want := range [][2]int{{0, 1}, {1, 4}, {4, 5}, {5, 7}} {
		if from, to := gram.Rules(g, v); from != want[0] || to != want[1] {
			t.Errorf("Rules of %d: %d, %d, want %v", v, from, to, want)
		}
	}
	full := api.Grammar{Vars: names(64)}
	for i := range 256 {
		full.Rules = append(full.Rules, rule(i/4, slices.Repeat([]int{0}, i%4)...))
	}
	for v := range 64 {
		if from, to := gram.Rules(full, v); from != 4*v || to != 4*v+4 {
			t.Errorf("Rules of %d: %d, %d", v, from, to)
		}
	}
}

// P6.1: the names of symbols.
func TestName(t *testing.T) {
	g := api.Grammar{Terms: []string{" ", "a", "it is"}, Vars: []string{"s", "Name_1"}, Rules: []api.Rule{rule(0, ^0, ^1, 1), rule(1, ^2)}}
	for s, want := range map[int]string{0: "s", 1: "Name_1", -1: "' '", -2: "'a'", -3: "'it is'"} {
		if got := gram.Name(g, s); got != want {
			t.Errorf("Name of %d: %q, want %q", s, got, want)
		}
	}
}

// P6.1: which grammars are right: of each thing that is asked what is right just so, and what is wrong just so.
func TestRight(t *testing.T) {
	for i, c := range []struct {
		want bool
		turn func(*api.Grammar)
	}{
		{true, func(*api.Grammar) {}},
		{false, func(g *api.Grammar) { *g = api.Grammar{} }},
		{true, func(g *api.Grammar) { *g = grammar("", "s", rule(0)) }},
		{false, func(g *api.Grammar) { *g = grammar("", "s") }},
		{false, func(g *api.Grammar) { *g = grammar("a", "", rule(0, ^0)) }},
		{true, func(g *api.Grammar) { *g = grammar("", "s", rule(0, 0), rule(0, 0, 0)) }},

		{true, func(g *api.Grammar) { g.Vars[0] = strings.Repeat("n", 24) }},
		{false, func(g *api.Grammar) { g.Vars[0] = strings.Repeat("n", 25) }},
		{false, func(g *api.Grammar) { g.Vars[1] = "" }},
		{false, func(g *api.Grammar) { g.Vars[1] = "_t" }},
		{false, func(g *api.Grammar) { g.Vars[1] = "t u" }},
		{false, func(g *api.Grammar) { g.Vars[1] = "s" }},
		{true, func(g *api.Grammar) { g.Vars[1] = "S" }},
		{true, func(g *api.Grammar) { g.Vars[0] = "u" }},

		{true, func(g *api.Grammar) { g.Terms[1] = strings.Repeat("b", 16) }},
		{false, func(g *api.Grammar) { g.Terms[1] = strings.Repeat("b", 17) }},
		{false, func(g *api.Grammar) { g.Terms[0] = "" }},
		{false, func(g *api.Grammar) { g.Terms[0] = "'" }},
		{false, func(g *api.Grammar) { g.Terms[0] = "\n" }},
		{false, func(g *api.Grammar) { g.Terms[1] = "é" }},
		{true, func(g *api.Grammar) { g.Terms[0] = " " }},
		{false, func(g *api.Grammar) { g.Terms[0] = "b" }},
		{false, func(g *api.Grammar) { g.Terms[0] = "c" }},
		{false, func(g *api.Grammar) { g.Terms[0] = "ba" }},
		{true, func(g *api.Grammar) { g.Terms[1] = "aa" }},
		{true, func(g *api.Grammar) { g.Terms[0] = "B" }},
		{false, func(g *api.Grammar) { g.Terms[1] = "B" }},
		{true, func(g *api.Grammar) { g.Terms[0], g.Terms[1] = "10", "9" }},
		{false, func(g *api.Grammar) { g.Terms = append(g.Terms, "c") }},
		{false, func(g *api.Grammar) { g.Rules[0].Right[0] = ^1 }},
		{false, func(g *api.Grammar) { g.Terms = nil }},

		{false, func(g *api.Grammar) { g.Rules[0].Left = -1 }},
		{false, func(g *api.Grammar) { g.Rules[3].Left = 2 }},
		{false, func(g *api.Grammar) { g.Rules[3].Left = 0 }},
		{false, func(g *api.Grammar) { g.Rules[1].Left = 1; g.Rules[2].Left = 0 }},
		{false, func(g *api.Grammar) { g.Rules = g.Rules[:2] }},
		{false, func(g *api.Grammar) { g.Rules = g.Rules[2:] }},
		{false, func(g *api.Grammar) { g.Vars = append(g.Vars, "u") }},
		{true, func(g *api.Grammar) { g.Vars = append(g.Vars, "u"); g.Rules = append(g.Rules, rule(2)) }},
		{false, func(g *api.Grammar) { g.Vars = append(g.Vars, "u", "v"); g.Rules = append(g.Rules, rule(3)) }},
		{false, func(g *api.Grammar) { g.Rules = append(g.Rules, rule(2)) }},
		{false, func(g *api.Grammar) { slices.Reverse(g.Rules) }},
		{false, func(g *api.Grammar) { g.Rules[3].Left = math.MaxInt }},
		{false, func(g *api.Grammar) { g.Rules[0].Left = math.MinInt }},

		{false, func(g *api.Grammar) { g.Rules[0].Right[1] = 2 }},
		{false, func(g *api.Grammar) { g.Rules[0].Right[1] = ^2 }},
		{false, func(g *api.Grammar) { g.Rules[0].Right[1] = math.MaxInt }},
		{false, func(g *api.Grammar) { g.Rules[0].Right[1] = math.MinInt }},
		{false, func(g *api.Grammar) { g.Rules = append(g.Rules, rule(1, 0, ^5)) }},
		{true, func(g *api.Grammar) { g.Rules = append(g.Rules, rule(1, slices.Repeat([]int{0}, 24)...)) }},
		{false, func(g *api.Grammar) { g.Rules = append(g.Rules, rule(1, slices.Repeat([]int{0}, 25)...)) }},

		{false, func(g *api.Grammar) { g.Rules = append(g.Rules, rule(1)) }},
		{false, func(g *api.Grammar) { g.Rules = append(g.Rules, weighed(2, 1, ^1, 1)) }},
		{false, func(g *api.Grammar) { g.Rules = append(g.Rules, api.Rule{Left: 1, Right: []int{}}) }},
		{true, func(g *api.Grammar) { g.Rules = append(g.Rules, rule(1, 1, ^1)) }},
		{true, func(g *api.Grammar) { g.Rules = append(g.Rules, rule(1, ^0, 0, 1)) }},
	} {
		g := copied(plain())
		c.turn(&g)
		if gram.Right(g) != c.want {
			t.Errorf("case %d: Right of %v is %v", i, g, !c.want)
		}
	}
}

// P6.1: weights of a right grammar are those of a text.
func TestRightWeights(t *testing.T) {
	for _, f := range []float64{0, below, 1, -1, 1.5, 0.1, 0.000001, -0.000001, 999999999, 999999999.999999, -999999999.999999, math.Inf(1), math.Inf(-1), math.NaN(), math.Float64frombits(0xFFF0000000000001)} {
		if g := grammar("", "s", weighed(f, 0)); !gram.Right(g) {
			t.Errorf("the weight %v", f)
		}
	}
	for _, f := range []float64{0.0000001, 0.0000015, 1e-300, math.SmallestNonzeroFloat64, math.Nextafter(0, -1), math.Nextafter(1, 2), math.Nextafter(0.1, 0), 1.0 / 3, math.Pi, math.Nextafter(0.2, 0), 1e9, 1e9 + 0.5, -1e9, 1e16, math.MaxFloat64, -math.MaxFloat64} {
		if g := grammar("", "s", weighed(f, 0)); gram.Right(g) {
			t.Errorf("the weight %v", f)
		}
	}
}

// P6.1: a right grammar may be as great as the limits say, and no greater.
func TestRightSizes(t *testing.T) {
	many := func(vars, rules int) api.Grammar {
		g := api.Grammar{Vars: names(vars)}
		for i := range rules {
			right := slices.Repeat([]int{0}, 4)
			for j := range right {
				right[j] = i >> (2 * j) % 4 % vars
			}
			g.Rules = append(g.Rules, rule(min(i, vars-1), append(right, i/256%vars)...))
		}
		return g
	}
	for _, c := range []struct {
		vars, rules int
		want        bool
	}{{4, 4, true}, {64, 64, true}, {65, 65, false}, {4, 256, true}, {4, 257, false}, {64, 256, true}, {64, 257, false}, {300, 300, false}, {64, 63, false}} {
		if got := gram.Right(many(c.vars, c.rules)); got != c.want {
			t.Errorf("%d variables, %d rules: %v", c.vars, c.rules, got)
		}
	}
	for _, n := range []int{1, 63, 64, 65, 80} {
		g := api.Grammar{Terms: names(n), Vars: []string{"s"}}
		for i := range n {
			g.Rules = append(g.Rules, rule(0, ^i))
		}
		if got := gram.Right(g); got != (n <= 64) {
			t.Errorf("%d terminals: %v", n, got)
		}
	}
}

// P6.1: which grammars are the same.
func TestSame(t *testing.T) {
	for i, c := range []struct {
		want bool
		turn func(*api.Grammar)
	}{
		{true, func(*api.Grammar) {}},
		{false, func(g *api.Grammar) { *g = api.Grammar{} }},
		{false, func(g *api.Grammar) { g.Terms[0] = "c" }},
		{false, func(g *api.Grammar) { g.Terms = append(g.Terms, "c") }},
		{false, func(g *api.Grammar) { g.Terms[0], g.Terms[1] = g.Terms[1], g.Terms[0] }},
		{false, func(g *api.Grammar) { g.Vars[1] = "u" }},
		{false, func(g *api.Grammar) { g.Vars = g.Vars[:1] }},
		{false, func(g *api.Grammar) { g.Vars[0], g.Vars[1] = g.Vars[1], g.Vars[0] }},
		{false, func(g *api.Grammar) { g.Rules = g.Rules[:3] }},
		{false, func(g *api.Grammar) { g.Rules = g.Rules[1:] }},
		{false, func(g *api.Grammar) { g.Rules[0], g.Rules[1] = g.Rules[1], g.Rules[0] }},
		{false, func(g *api.Grammar) { g.Rules[1].Left = 1 }},
		{false, func(g *api.Grammar) { g.Rules[1].Right[0] = ^0 }},
		{false, func(g *api.Grammar) { g.Rules[1].Right = nil }},
		{false, func(g *api.Grammar) { g.Rules[1].Right = append(g.Rules[1].Right, 0) }},
		{false, func(g *api.Grammar) { g.Rules[1].Weight = 1.25 }},
		{false, func(g *api.Grammar) { g.Rules[1].Weight = math.NaN() }},
		{false, func(g *api.Grammar) { g.Rules[0].Weight = below }},
		{true, func(g *api.Grammar) { g.Rules[2].Right = []int{} }},
		{true, func(g *api.Grammar) { g.Rules[2].Right = nil }},
	} {
		g := copied(plain())
		c.turn(&g)
		if gram.Same(g, plain()) != c.want || gram.Same(plain(), g) != c.want || !gram.Same(g, g) {
			t.Errorf("case %d: Same of %v isn't %v", i, g, c.want)
		}
	}
}

// P6.1, rule 5: weights that are no number are the same, -0 and 0 aren't; no list and an empty one are one.
func TestSameEdges(t *testing.T) {
	of := func(f float64) api.Grammar { return grammar("", "s", weighed(f, 0)) }
	if !gram.Same(of(math.NaN()), of(-math.NaN())) || gram.Same(of(0), of(below)) || gram.Same(of(math.Inf(1)), of(math.Inf(-1))) || gram.Same(of(1), of(math.Nextafter(1, 2))) {
		t.Error("weights")
	}
	if !gram.Same(api.Grammar{}, api.Grammar{Terms: []string{}, Vars: []string{}, Rules: []api.Rule{}}) {
		t.Error("lists")
	}
	// Grammars that aren't right are compared all the same.
	wild := grammar("b a b", "9 9", rule(7, 8, ^9), rule(-1))
	if !gram.Same(wild, copied(wild)) || gram.Same(wild, plain()) {
		t.Error("wild ones")
	}
}

// wild is grammars that aren't right, in many ways.
func wild() []api.Grammar {
	return []api.Grammar{
		{},
		{Vars: []string{"s"}},
		{Terms: []string{"a"}},
		{Rules: []api.Rule{rule(0, ^0, 0)}},
		grammar("a", "s", rule(5, 9, ^9), rule(-3, math.MinInt, math.MaxInt), rule(2), weighed(1.0/3, 0, 1)),
		grammar("b a b", "9 9 9", rule(2, 2), rule(1, 1), rule(0, 0)),
		{Vars: names(300), Rules: slices.Repeat([]api.Rule{rule(299, slices.Repeat([]int{299}, 300)...)}, 300)},
	}
}

// Rule 1, and that no call panics: grammars and symbols of which nothing is said.
func TestWildGrammars(t *testing.T) {
	for i, g := range wild() {
		if gram.Right(g) {
			t.Errorf("the wild grammar %d is right", i)
		}
		for _, s := range []int{0, 1, 2, 300, -1, -2, -300, math.MaxInt, math.MinInt} {
			gram.Name(g, s)
			if from, to := gram.Rules(g, s); from < 0 || from > to || to > len(g.Rules) {
				t.Errorf("the wild grammar %d: the rules of %d: %d, %d", i, s, from, to)
			}
		}
		gram.Print(g)
		gram.Word(g, "a b s")
		gram.Same(g, plain())
	}
}

// Rule 4: what is handed in stays as it is.
func TestHandedInStays(t *testing.T) {
	g, kept := plain(), copied(plain())
	gram.Right(g)
	gram.Same(g, kept)
	gram.Rules(g, 1)
	gram.Name(g, 1)
	gram.Print(g)
	if w, _ := gram.Word(g, "a b"); len(w) == 2 {
		w[0] = 9
	}
	if !gram.Same(g, kept) {
		t.Errorf("%v", g)
	}
}
