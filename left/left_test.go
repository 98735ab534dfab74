package left_test

import (
	"math"
	"slices"
	"strings"
	"testing"

	"accidence/api"
	"accidence/gram"
	"accidence/left"
	"accidence/sample"
)

// groups is groups of variables as text: each one's names, with ; between the groups.
func groups(g api.Grammar, list [][]int) string {
	var all []string
	for _, group := range list {
		var names []string
		for _, v := range group {
			names = append(names, g.Vars[v])
		}
		all = append(all, strings.Join(names, " "))
	}
	return strings.Join(all, "; ")
}

// marked tells whether just the variables of some groups are marked.
func marked(marks []bool, groups [][]int) bool {
	for v, mark := range marks {
		if mark != slices.ContainsFunc(groups, func(group []int) bool { return slices.Contains(group, v) }) {
			return false
		}
	}
	return true
}

// isShown tells a fault if variables that may begin with themselves have no derivation that shows it, or others have one.
func isShown(t *testing.T, g api.Grammar) {
	t.Helper()
	for v, mark := range left.Recursive(g) {
		rules, ok := left.Cycle(g, v)
		if ok != mark || ok != (len(rules) > 0) || ok != left.Check(g, v, rules) {
			t.Errorf("%s%d: %v, %v, may it: %v", gram.Print(g), v, rules, ok, mark)
		}
	}
}

// P11.1, P11.2: which variables may begin with themselves, and which of them with one another.
func TestGroups(t *testing.T) {
	for _, c := range []struct{ text, want string }{
		{"s = t s 'a' | 'b' ; t = ;", "s"},
		{"s = ;", ""}, {"s = 'a' ;", ""}, {"s = 'a' s ;", ""}, {"s = 'a' s 'b' | ;", ""}, {"s = 'a' | 'b' t ; t = s t | 'c' s ;", ""},
		{"s = s ;", "s"}, {"s = s 'a' | 'b' ;", "s"}, {"s = 'b' | s 'a' ;", "s"}, {"s = s s | 'a' ;", "s"}, {"s = | s ;", "s"},
		// What is behind a variable that doesn't vanish, or a terminal, isn't first.
		{"s = t s | 'b' ; t = 'a' ;", ""}, {"s = t s | 'b' ; t = 'a' | ;", "s"}, {"s = t 'x' s | 'b' ; t = ;", ""}, {"s = t u s | 'b' ; t = ; u = 'a' ;", ""}, {"s = t u s | 'b' ; t = ; u = t | 'a' ;", "s"},
		{"s = t s | 'b' ; t = t ;", "t"}, {"s = t s | 'b' ; t = u | 'a' ; u = t ;", "t u"},
		// Of no use, but may all the same.
		{"s = 'a' ; t = t 'b' ; u = v ; v = u ;", "t; u v"}, {"s = s u | 'a' ; u = u 'b' ;", "s; u"}, {"s = t u s ; t = ; u = 'a' u | ;", "s"}, {"s = u s | 'b' ; u = t u 'a' ; t = ;", "u"},
		// Rounds.
		{"s = t ; t = u ; u = s | 'a' ;", "s t u"}, {"s = t 'a' ; t = 'b' | s 'c' ; u = v ; v = w u ; w = ; x = 'd' x | u ;", "s t; u v"},
		{"u = s ; s = t | 'a' ; t = s 'b' | u ;", "u s t"}, {"a = b ; b = c | 'x' ; c = d ; d = c | 'y' ;", "c d"}, {"a = b | c ; b = c | 'x' ; c = b | a ; d = a d | d 'z' ;", "a b c; d"},
		{"d = e ; a = c ; e = d ; c = a ; b = b ;", "d e; a c; b"}, {"a = b ; b = b | c ; c = c | d ; d = d ;", "b; c; d"},
		// Rounds one of which leads to the other one, but not back.
		{"a = a 'x' | b ; b = b 'y' | 'z' ;", "a; b"}, {"a = b ; b = a | c ; c = d ; d = c | 'z' ;", "a b; c d"}, {"a = d a ; b = c ; c = b ; d = b | ;", "a; b c"},
		// What vanishes by a long way, or a round.
		{"s = t u v s 'a' | 'b' ; t = u u ; u = v v v | u ; v = | 'c' ;", "s; u"}, {"s = s2 s s2 ; s2 = s2 s2 | ;", "s; s2"},
		{"e = e '+' t | t ; t = t '*' f | f ; f = '(' e ')' | 'n' ;", "e; t"}, {"e = (e | )? '+' 'n' | 'n' ;", "e g1 g2"},
	} {
		g := sample.Load(c.text)
		list := left.Groups(g)
		if got := groups(g, list); got != c.want {
			t.Errorf("%s: %q, want %q", c.text, got, c.want)
		}
		if marks := left.Recursive(g); len(marks) != len(g.Vars) || !marked(marks, list) {
			t.Errorf("%s: %v, but %q", c.text, marks, c.want)
		}
		isShown(t, g)
	}
}

// The chapter's example, and others that have but one derivation of so few steps.
func TestCycle(t *testing.T) {
	for _, c := range []struct {
		text string
		v    int
		want []int
	}{
		{"s = t s 'a' | 'b' ; t = ;", 0, []int{0, 2}}, {"s = s ;", 0, []int{0}}, {"s = 'a' | s 'b' ;", 0, []int{1}},
		{"s = t ; t = u ; u = s | 'a' ;", 0, []int{0, 1, 2}}, {"s = t ; t = u ; u = s | 'a' ;", 1, []int{1, 2, 0}}, {"s = t ; t = u ; u = s | 'a' ;", 2, []int{2, 0, 1}},
		{"s = t u s | 'b' ; t = u u ; u = 'a' | ;", 0, []int{0, 2, 4, 4, 4}}, {"s = 'x' | t u ; t = 'y' | ; u = 'z' | t t s ;", 0, []int{1, 3, 5, 3, 3}},
	} {
		g := sample.Load(c.text)
		if got, ok := left.Cycle(g, c.v); !ok || !slices.Equal(got, c.want) {
			t.Errorf("%s of %d: %v, %v, want %v", c.text, c.v, got, ok, c.want)
		}
		if !left.Check(g, c.v, c.want) {
			t.Errorf("%s of %d: %v doesn't show it", c.text, c.v, c.want)
		}
	}
}

// P11.1: there is none of a variable that may not, and none of none.
func TestNoCycle(t *testing.T) {
	for _, c := range []struct {
		text string
		list []int
	}{
		{"s = 'a' s | s2 ; s2 = 'b' s2 | ; s3 = s3 ;", []int{0, 1, 3, 64, math.MaxInt, -1, -2, -3, math.MinInt}},
		{"s = s ;", []int{1, 2, -1}},
		{"s = t s | 'b' ; t = t 'a' | 'a' ;", []int{0, 2}},
		{"s = t ; t = u ; u = u 'a' | t 'b' ;", []int{0}},
	} {
		for _, v := range c.list {
			if rules, ok := left.Cycle(sample.Load(c.text), v); ok || len(rules) != 0 {
				t.Errorf("%s of %d: %v, %v", c.text, v, rules, ok)
			}
		}
	}
}

// P11.1: rules that aren't such a derivation, each in its own way.
func TestCheck(t *testing.T) {
	g := sample.Load("s = t s 'a' | 'b' | u ; t = | s ; u = s 'c' | 'd' ;")
	for _, c := range []struct {
		v     int
		rules []int
		want  bool
	}{
		{0, []int{0, 3}, true}, {0, []int{2, 5}, true}, {0, []int{0, 4}, true}, {0, []int{0, 3, 0, 3}, true}, {0, []int{0, 3, 2, 5}, true}, {0, []int{0, 4, 2, 5, 2, 5}, true},
		{1, []int{4, 0}, true}, {1, []int{4, 2, 5, 0}, true}, {2, []int{5, 2}, true}, {2, []int{5, 0, 3, 2}, true},
		// No step.
		{0, nil, false}, {0, []int{}, false}, {1, nil, false},
		// Not yet, no more, or elsewhere.
		{0, []int{0}, false}, {0, []int{2}, false}, {0, []int{1}, false}, {0, []int{0, 3, 1}, false}, {0, []int{0, 3, 0}, false}, {1, []int{4}, false}, {1, []int{3}, false}, {2, []int{5}, false}, {2, []int{6}, false}, {1, []int{4, 2, 5}, false},
		// Steps that can't be done.
		{0, []int{3}, false}, {0, []int{0, 3, 3}, false}, {0, []int{0, 0, 3}, false}, {0, []int{1, 0, 3}, false}, {0, []int{0, 7}, false}, {0, []int{-1}, false}, {0, []int{0, 3, math.MaxInt}, false}, {0, []int{math.MinInt}, false},
		// Of another variable.
		{1, []int{0, 3}, false}, {2, []int{0, 3}, false}, {1, []int{2, 5}, false}, {0, []int{5, 2}, false},
		// Of none.
		{3, []int{0, 3}, false}, {3, nil, false}, {64, []int{0}, false}, {-1, []int{0, 3}, false}, {-1, nil, false}, {-4, []int{1}, false}, {math.MaxInt, []int{0}, false}, {math.MinInt, []int{0}, false},
	} {
		if got := left.Check(g, c.v, c.rules); got != c.want {
			t.Errorf("%d by %v: %v", c.v, c.rules, got)
		}
	}
	// As many steps as may be, and one more.
	g = sample.Load("s = s ;")
	if !left.Check(g, 0, make([]int, api.MaxSteps)) || left.Check(g, 0, make([]int, api.MaxSteps+1)) {
		t.Error("4096 steps, and 4097")
	}
}

// doubled is variables of which v0 vanishes by 2^n - 1 steps.
func doubled(n int) string { return sample.Doubled(n, 2, "", "") }

// P11.1: as many steps as a derivation may have, and one more.
func TestMostSteps(t *testing.T) {
	for _, c := range []struct {
		text string
		want []int
	}{
		// By v0, which takes 4095 steps, and one more.
		{"s = v0 s ; " + doubled(12), []int{4096}},
		{"s = v0 t ; t = s ; " + doubled(12), []int{0, 0}},
		{"s = t ; t = v0 u ; u = v2 v2 v2 v2 s ; " + doubled(12), []int{0, 0, 0}},
		{"s = v1 t ; t = v1 s ; " + doubled(12), []int{4096, 4096}},
		{"s = v1 v1 s ; " + doubled(12), []int{4095}},
		// A way of fewer steps, wherever it is told.
		{"s = v0 v0 s | t ; t = v0 s | u ; u = v0 s | v1 s ; " + doubled(12), []int{2050, 2050, 2050}},
		{"s = t | v0 v0 s ; t = u | v0 s ; u = v1 s | v0 s ; " + doubled(12), []int{2050, 2050, 2050}},
		// By far too many: 2^40 - 1 to vanish.
		{"s = v0 s ; " + doubled(40), []int{0}},
		{"s = v0 s | v30 s ; " + doubled(40), []int{1024}},
	} {
		g := sample.Load(c.text)
		for v, want := range c.want {
			rules, ok := left.Cycle(g, v)
			if ok != (want > 0) || len(rules) != want || left.Check(g, v, rules) != ok {
				t.Errorf("%s of %d: %d steps, %v, want %d", c.text, v, len(rules), ok, want)
			}
			if !left.Recursive(g)[v] {
				t.Errorf("%s: %d may not", c.text, v)
			}
		}
	}
}

// P11.2: up to 8 variables, 8 symbols in a rule, and 50 steps to vanish are few enough.
func TestFewSteps(t *testing.T) {
	// e takes 1 + 7 * 7 steps.
	g := sample.Load("a = e e e e e e e b ; b = e e e e e e e c ; c = e e e e e e e d ; d = e e e e e e e x ; x = e e e e e e e a ; e = f f f f f f f ; f = h h h h h h ; h = ;")
	if len(g.Vars) != 8 {
		t.Fatal("8 variables")
	}
	for v := range 5 {
		rules, ok := left.Cycle(g, v)
		if !ok || len(rules) != 5*(1+7*50) || !left.Check(g, v, rules) {
			t.Errorf("%d: %d steps, %v", v, len(rules), ok)
		}
	}
}

// P11.1: as many variables as there may be, in a round, or in a row.
func TestLongRounds(t *testing.T) {
	for _, back := range []bool{false, true} {
		for _, open := range []bool{false, true} {
			var b strings.Builder
			for v := range api.MaxVars {
				next := (v + 1) % api.MaxVars
				if back {
					next = (v + api.MaxVars - 1) % api.MaxVars
				}
				b.WriteString(sample.Name(v) + " = ")
				if open && v == 20 {
					b.WriteString("'x' ")
				}
				b.WriteString(sample.Name(next) + " ; ")
			}
			g := sample.Load(b.String())
			list := left.Groups(g)
			if open && len(list) != 0 || !open && (len(list) != 1 || len(list[0]) != api.MaxVars || !slices.IsSorted(list[0])) {
				t.Errorf("%v, %v: %v", back, open, list)
			}
			if slices.Contains(left.Recursive(g), open) {
				t.Errorf("%v, %v: %v", back, open, left.Recursive(g))
			}
			isShown(t, g)
			if rules, _ := left.Cycle(g, 7); !open && len(rules) != api.MaxVars {
				t.Errorf("%d steps", len(rules))
			}
		}
	}
}

// Rule 4: answers are new memory, and what is handed in stays.
func TestNewMemory(t *testing.T) {
	text := "s = %2 t s 'a' | 'b' ; t = %nan | u t ; u = ; v = w ; w = v | 'c' ;"
	g := sample.Load(text)
	turn(left.Recursive(g), true)
	list := left.Groups(g)
	want := groups(g, list)
	for _, group := range list {
		_ = append(group, 9)
	}
	if got := groups(g, list); got != want || want != "s; t; v w" {
		t.Errorf("%q, want %q", got, want)
	}
	for _, group := range list {
		turn(group, 7)
	}
	turn(list, nil)
	rules, _ := left.Cycle(g, 0)
	was := slices.Clone(rules)
	if !left.Check(g, 0, rules) || !slices.Equal(rules, was) {
		t.Errorf("%v, was %v", rules, was)
	}
	turn(rules, 7)
	if again, _ := left.Cycle(g, 0); !slices.Equal(again, was) || groups(g, left.Groups(g)) != want || !gram.Same(g, sample.Load(text)) {
		t.Errorf("turned: %v, %v, %s", again, left.Groups(g), gram.Print(g))
	}
}

// turn turns all of a list, and what room is behind it.
func turn[T any](list []T, x T) {
	list = list[:cap(list)]
	for i := range list {
		list[i] = x
	}
}

// Rule 1: no call panics, whatever it is handed.
func TestNoPanic(t *testing.T) {
	wild := sample.Wild()
	for _, g := range sample.Odd() {
		left.Recursive(g)
		left.Groups(g)
		for _, v := range wild {
			rules, _ := left.Cycle(g, v)
			left.Check(g, v, rules)
			left.Check(g, v, wild)
		}
	}
}
