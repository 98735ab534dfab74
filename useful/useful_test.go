package useful_test

import (
	"slices"
	"strconv"
	"strings"
	"testing"

	"accidence/api"
	"accidence/gram"
	"accidence/sample"
	"accidence/useful"
)

// names is the names of those variables that are marked; a fault, if there isn't just one mark of each.
func names(t *testing.T, g api.Grammar, marks []bool) string {
	t.Helper()
	if len(marks) != len(g.Vars) {
		t.Fatalf("%d marks of %d variables", len(marks), len(g.Vars))
	}
	var list []string
	for v, name := range g.Vars {
		if marks[v] {
			list = append(list, name)
		}
	}
	return strings.Join(list, " ")
}

// P9.1: which variables become words, the empty one, and which are of use.
func TestMarks(t *testing.T) {
	for _, c := range []struct{ text, words, empty, use string }{
		{"s = 'a' s | t | u ; t = ; u = u 'b' ; w = 'a' ;", "s t w", "s t", "s t"},
		{"s = ;", "s", "s", "s"}, {"s = 'a' ;", "s", "", "s"},
		// No word, as nothing ends.
		{"s = s ;", "", "", ""}, {"s = s s ; t = ;", "t", "t", ""}, {"s = 'a' s ; t = s ; u = 'a' ;", "u", "", ""}, {"s = t ; t = s ;", "", "", ""},
		{"s = 'a' t | s t ; t = 'b' t ;", "", "", ""}, {"s = t 'a' ; t = u | t ; u = t t ;", "", "", ""},
		// A way out, behind a way on.
		{"s = s | ;", "s", "s", "s"}, {"s = | s ;", "s", "s", "s"}, {"s = s s | 'a' ;", "s", "", "s"}, {"s = t ; t = s | u ; u = t | ;", "s t u", "s t u", "s t u"},
		// What is defined behind, and ahead.
		{"s = t ; t = u ; u = v ; v = 'a' | ;", "s t u v", "s t u v", "s t u v"}, {"s = 'a' | ; t = s ; u = t ; v = u ;", "s t u v", "s t u v", "s"},
		{"s = v ; t = ; u = t ; v = u ;", "s t u v", "s t u v", "s t u v"},
		// A rule of which one variable becomes no word leads nowhere, whatever else it has.
		{"s = 'a' | t u ; t = 'b' ; u = u ;", "s t", "", "s"}, {"s = 'a' | u t ; t = 'b' ; u = u ;", "s t", "", "s"}, {"s = 'a' | t u v | t ; t = 'b' ; u = 'a' u ; v = ;", "s t v", "v", "s t"},
		{"s = | t ; t = u | 'a' v ; u = t w ; v = 'b' ; w = w ;", "s t v", "s", "s t v"},
		// All symbols must vanish.
		{"s = t t u ; t = ; u = t | 'a' ;", "s t u", "s t u", "s t u"}, {"s = t 'a' t ; t = ;", "s t", "t", "s t"}, {"s = 'a' t ; t = ;", "s t", "t", "s t"}, {"s = t 'a' ; t = ;", "s t", "t", "s t"},
		{"s = t u ; t = ; u = 'a' ;", "s t u", "t", "s t u"}, {"s = u t ; t = ; u = 'a' ;", "s t u", "t", "s t u"},
		// What leads to the start, and isn't come to.
		{"s = 'a' ; t = s u ; u = t | ;", "s t u", "u", "s"}, {"s = s 'a' | 'a' ; t = 's' t | s ;", "s t", "", "s"},
		// By a variable that is come to in another way.
		{"s = t | u ; t = x w ; u = v ; v = w 'a' ; w = ; x = x ;", "s u v w", "w", "s u v w"},
	} {
		g := sample.Load(c.text)
		if got := names(t, g, useful.Productive(g)); got != c.words {
			t.Errorf("%s: %q become words, want %q", c.text, got, c.words)
		}
		if got := names(t, g, useful.Nullable(g)); got != c.empty {
			t.Errorf("%s: %q become the empty one, want %q", c.text, got, c.empty)
		}
		if got := names(t, g, useful.Useful(g)); got != c.use {
			t.Errorf("%s: %q are of use, want %q", c.text, got, c.use)
		}
	}
}

// chain is a grammar of 64 variables, each of which is but the next one, or the one ahead of it, and the last of which, or the first one, has another rule.
func chain(last string, back bool) api.Grammar {
	var b strings.Builder
	for v := range api.MaxVars {
		next := v + 1
		if back {
			next = v - 1
		}
		if next < 0 || next == api.MaxVars {
			b.WriteString("v" + strconv.Itoa(v) + " = " + last + " ; ")
		} else {
			b.WriteString("v" + strconv.Itoa(v) + " = v" + strconv.Itoa(next) + " ; ")
		}
	}
	return sample.Load(b.String())
}

// P9.1: as many variables as there may be, one behind the other.
func TestLongChains(t *testing.T) {
	all, none := slices.Repeat([]bool{true}, 64), make([]bool, 64)
	start := append([]bool{true}, none[1:]...)
	for _, c := range []struct {
		last             string
		back             bool
		words, empty, on []bool
	}{
		{"", false, all, all, all}, {"'a'", false, all, none, all}, {"v0", false, none, none, none}, {"v63", false, none, none, none}, {"v0 | 'a'", false, all, none, all},
		{"", true, all, all, start}, {"'a'", true, all, none, start}, {"v0", true, none, none, none}, {"v63", true, none, none, none}, {"v63 | ", true, all, all, all},
	} {
		g := chain(c.last, c.back)
		if !slices.Equal(useful.Productive(g), c.words) || !slices.Equal(useful.Nullable(g), c.empty) || !slices.Equal(useful.Useful(g), c.on) {
			t.Errorf("%q, %v: %v, %v, %v", c.last, c.back, useful.Productive(g), useful.Nullable(g), useful.Useful(g))
		}
	}
}

// Rule 4: answers are new memory, and what is handed in stays.
func TestNewMemory(t *testing.T) {
	text := "s = 'b' s | %2 t | u ; t = %nan | t t ; u = u 'a' ; w = 'a' ;"
	g := sample.Load(text)
	was := gram.Print(g)
	same := func() {
		t.Helper()
		if gram.Print(g) != was || !gram.Same(g, sample.Load(text)) {
			t.Fatalf("turned: %s", gram.Print(g))
		}
	}
	turn(useful.Productive(g), true)
	turn(useful.Nullable(g), true)
	turn(useful.Useful(g), true)
	cost, best := useful.Cost(g)
	turn(cost, 7)
	turn(best, 7)
	rules, _ := useful.Shortest(g, 0)
	turn(rules, 7)
	same()
	less, were, _ := useful.Reduce(g)
	turn(were, 7)
	turn(less.Terms, "z")
	turn(less.Vars, "z")
	for _, r := range less.Rules {
		turn(r.Right, 7)
	}
	turn(less.Rules, api.Rule{Left: 7})
	same()
	if names(t, g, useful.Productive(g)) != "s t w" || names(t, g, useful.Nullable(g)) != "s t" || names(t, g, useful.Useful(g)) != "s t" {
		t.Error("a call turns another one's answer")
	}
	// A grammar of all that is of use is one of its own, too.
	whole := sample.Load("s = 'a' s | ;")
	less, _, _ = useful.Reduce(whole)
	turn(less.Terms, "z")
	turn(less.Vars, "z")
	turn(less.Rules[0].Right, 7)
	turn(less.Rules, api.Rule{Left: 7})
	if gram.Print(whole) != "s = 'a' s | ;\n" {
		t.Errorf("turned: %s", gram.Print(whole))
	}
}

// turn turns all of a list, and what room is behind it.
func turn[T any](list []T, x T) {
	list = list[:cap(list)]
	for i := range list {
		list[i] = x
	}
}

// Rule 1: no call panics, whatever it is handed.
func TestNoPanic(t *testing.T) {
	wild := sample.Wild()
	for _, g := range sample.Odd() {
		useful.Productive(g)
		useful.Nullable(g)
		useful.Useful(g)
		useful.Cost(g)
		useful.Reduce(g)
		for _, v := range wild {
			useful.Shortest(g, v)
		}
	}
}
