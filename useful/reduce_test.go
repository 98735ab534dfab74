package useful_test

import (
	"math"
	"slices"
	"strings"
	"testing"

	"accidence/api"
	"accidence/gram"
	"accidence/sample"
	"accidence/useful"
)

// P9.1, P9.2: what is of use, in its order, with its names, texts and weights; and which variable was which one.
func TestReduce(t *testing.T) {
	for _, c := range []struct {
		text, want string
		were       []int
	}{
		{"s = 'a' s | t | u ; t = ; u = u 'b' ; w = 'a' ;", "s = 'a' s | t ;\nt = ;\n", []int{0, 1}},
		{"s = ;", "s = ;\n", []int{0}}, {"s = 'a' | ;", "s = 'a' | ;\n", []int{0}}, {"s = s | ;", "s = s | ;\n", []int{0}},
		// Terminals of which some go, so that others have other numbers.
		{"s = 'c' | 'a' x | 'd' 'b' s ; x = x 'b' | 'e' x ;", "s = 'c' | 'd' 'b' s ;\n", []int{0}},
		{"s = 'e' 'c' 'e' ; t = 'a' 'b' 'c' 'd' 'e' 'f' ;", "s = 'e' 'c' 'e' ;\n", []int{0}}, {"s = ; t = 'a' ; u = 'b' t ;", "s = ;\n", []int{0}},
		// Variables of which some go, so that others have other numbers.
		{"s = u w | t ; t = t ; u = 'a' x | w ; v = s ; w = 'b' | u s ; x = x w ;", "s = u w ;\nu = w ;\nw = 'b' | u s ;\n", []int{0, 2, 4}},
		{"s = x ; t = s ; u = t ; v = u ; w = v ; x = ;", "s = x ;\nx = ;\n", []int{0, 5}},
		// What is come to by rules of no use alone.
		{"s = 'a' | t u ; t = v 'b' ; u = u ; v = 'c' ;", "s = 'a' ;\n", []int{0}}, {"s = 'a' | t ; t = u v | w ; u = 'b' ; v = v u ; w = u ;", "s = 'a' | t ;\nt = w ;\nu = 'b' ;\nw = u ;\n", []int{0, 1, 2, 4}},
		// Weights, and names that are like those of new variables.
		{"s = %-0 x | %nan 'a' | %inf g1 | %1.5 | %-inf 's' x ; x = %2 x ; g1 = %0.000001 'b' | %-7 x ;", "s = %nan 'a' | %inf g1 | %1.5 ;\ng1 = %0.000001 'b' ;\n", []int{0, 2}},
		{"start = (x | 'b')* 'it is' ; x = x ; y = ;", "start = g1 'it is' ;\ng1 = g2 g1 | ;\ng2 = 'b' ;\n", []int{0, 3, 4}},
	} {
		g := sample.Load(c.text)
		less, were, ok := useful.Reduce(g)
		if got := gram.Print(less); !ok || got != c.want || !slices.Equal(were, c.were) {
			t.Errorf("%s: %s, %v, %v, want %s, %v", c.text, got, were, ok, c.want, c.were)
		}
		if !gram.Right(less) || slices.Contains(useful.Useful(less), false) {
			t.Errorf("%s: %v", c.text, less)
		}
	}
}

// P9.1: nothing, if the start becomes no word, whatever others become.
func TestReduceNothing(t *testing.T) {
	for _, text := range []string{"s = s ;", "s = 'a' s | t s ; t = 'b' ;", "s = t ; t = u 'a' ; u = t | s ; v = ;", "s = t t ; t = t ;", sample.Doubled(64, 24, "", "v0"), sample.Doubled(64, 23, " 'b'", "v63")} {
		less, were, ok := useful.Reduce(sample.Load(text))
		if ok || len(were) > 0 || len(less.Vars)+len(less.Terms)+len(less.Rules) > 0 {
			t.Errorf("%s: %v, %v, %v", text, less, were, ok)
		}
	}
}

// P9.2: a grammar as great as may be, all of it of use, stays as it is, one of which all but the start goes is right, too.
func TestReduceGreatest(t *testing.T) {
	g := api.Grammar{}
	for v := range api.MaxVars {
		g.Vars = append(g.Vars, strings.Repeat("v", 22)+string([]byte{byte('a' + v/26), byte('a' + v%26)}))
		g.Terms = append(g.Terms, string([]byte{byte('A' + v/26), byte('A' + v%26)}))
		for i := range 4 {
			right := slices.Repeat([]int{(v + 1) % api.MaxVars}, api.MaxRight-i)
			right[i] = ^v
			if i == 3 {
				right = []int{^(api.MaxTerms - 1 - v)}
			}
			g.Rules = append(g.Rules, api.Rule{Left: v, Right: right, Weight: float64(i)})
		}
	}
	if !gram.Right(g) {
		t.Fatal("the grammar isn't right")
	}
	less, were, ok := useful.Reduce(g)
	if !ok || !gram.Same(less, g) || len(were) != 64 || !slices.IsSorted(were) || were[63] != 63 {
		t.Errorf("%v, %v", were, ok)
	}
	// The others lead to each other alone, so that the start is left with one rule.
	for i := range g.Rules[4:] {
		right := g.Rules[4+i].Right
		for j, s := range right {
			if s == 0 {
				right[j] = 1
			}
		}
		if len(right) == 1 {
			g.Rules[4+i].Right = append(right, 1)
		}
	}
	g.Rules[3].Weight = math.Copysign(0, -1)
	less, were, ok = useful.Reduce(g)
	want := api.Grammar{Terms: g.Terms[63:], Vars: g.Vars[:1], Rules: []api.Rule{{Left: 0, Right: []int{^0}, Weight: math.Copysign(0, -1)}}}
	if !gram.Right(g) || !ok || !gram.Same(less, want) || !slices.Equal(were, []int{0}) {
		t.Errorf("%v, %v, %v, want %v", less, were, ok, want)
	}
}
