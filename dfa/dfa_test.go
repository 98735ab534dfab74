package dfa_test

import (
	"math"
	"slices"
	"strings"
	"testing"

	"accidence/api"
	"accidence/dfa"
	"accidence/gram"
	"accidence/sample"
)

// fork is the chapter's example: all a's are gone through, and then b tells the first rule, c the second one.
const fork = "s = a 'b' | b 'c' ; a = 'a' a | ; b = 'a' b | ;"

// hand is an automaton of two terminals, laid out by hand, some of whose states nothing but Run tells apart.
func hand() dfa.Dfa {
	return dfa.Dfa{
		Next: [][]int{{1, 2, 3}, {1, -1, 4}, {-1, -1, -1}, {-1, -1, -1}, {0, 2, 3}, {5, 5, -1}},
		Rule: []int{-1, -1, 7, 0, -1, -1},
	}
}

// P15.1: a way through an automaton, and by how many terminals it goes.
func TestRun(t *testing.T) {
	for _, c := range []struct {
		d       dfa.Dfa
		rest    []int
		rule, n int
	}{
		// The first state means a rule: nothing is looked at.
		{dfa.Dfa{Next: [][]int{{-1, -1}}, Rule: []int{4}}, nil, 4, 0},
		{dfa.Dfa{Next: [][]int{{-1}}, Rule: []int{0}}, []int{0, 9, -1}, 0, 0},
		// Terminals, and the end, that lead to a rule; what stands behind isn't looked at.
		{hand(), []int{1}, 7, 1}, {hand(), []int{1, 0, 1, 9}, 7, 1}, {hand(), nil, 0, 1},
		// A terminal that leads nowhere isn't counted.
		{hand(), []int{0, 1}, -1, 1}, {hand(), []int{0, 0, 0, 1, 0}, -1, 3},
		// Nor is what is no terminal, whatever stands in the place of the end.
		{hand(), []int{2}, -1, 0}, {hand(), []int{api.End}, -1, 0}, {hand(), []int{0, 2}, -1, 1}, {hand(), []int{0, 3}, -1, 1}, {hand(), []int{0, -2}, -1, 1},
		{hand(), []int{0, math.MaxInt}, -1, 1}, {hand(), []int{0, 0, math.MinInt}, -1, 2}, {hand(), []int{^0}, -1, 0}, {hand(), []int{^1}, -1, 0},
		// The end leads to a state that means no rule: it counts, and nothing goes on from there.
		{hand(), []int{0}, -1, 2}, {hand(), []int{0, 0, 0}, -1, 4},
		// The end leads nowhere: it doesn't count.
		{dfa.Dfa{Next: [][]int{{0, -1}}, Rule: []int{-1}}, nil, -1, 0}, {dfa.Dfa{Next: [][]int{{0, -1}}, Rule: []int{-1}}, []int{0, 0, 0}, -1, 3},
		// It leads back to where one was.
		{dfa.Dfa{Next: [][]int{{0, 0}}, Rule: []int{-1}}, nil, -1, 1}, {dfa.Dfa{Next: [][]int{{0, 0}}, Rule: []int{-1}}, []int{0, 0}, -1, 3},
		// No terminals at all.
		{dfa.Dfa{Next: [][]int{{1}, {-1}}, Rule: []int{-1, 3}}, nil, 3, 1}, {dfa.Dfa{Next: [][]int{{1}, {-1}}, Rule: []int{-1, 3}}, []int{0}, -1, 0}, {dfa.Dfa{Next: [][]int{{-1}}, Rule: []int{-1}}, nil, -1, 0},
	} {
		rest := slices.Clone(c.rest)
		if rule, n := c.d.Run(rest); rule != c.rule || n != c.n {
			t.Errorf("%v %v: %d, %d, want %d, %d", c.d, c.rest, rule, n, c.rule, c.n)
		}
		if !slices.Equal(rest, c.rest) {
			t.Errorf("%v: turned: %v", c.rest, rest)
		}
	}
	rest := append(slices.Repeat([]int{0}, 100000), 1)
	if rule, n := hand().Run(rest); rule != -1 || n != 100000 {
		t.Errorf("%d, %d", rule, n)
	}
}

// P15.1: the chapter's example, and those of the whole.
func TestExamples(t *testing.T) {
	d, ok := dfa.Build(sample.Load(fork), 0, 16, 100, 100)
	if !ok {
		t.Fatal("none")
	}
	for n := range 50 {
		all := slices.Repeat([]int{0}, n)
		for next, want := range []int{-1, 0, 1} {
			if next == 0 {
				continue
			}
			if rule, steps := d.Run(append(slices.Clone(all), next, 7)); rule != want || steps != n+1 {
				t.Errorf("%d: %d, %d", n, rule, steps)
			}
		}
		if rule, steps := d.Run(all); rule != -1 || steps != n {
			t.Errorf("%d: %d, %d", n, rule, steps)
		}
	}
	d, ok = dfa.Build(sample.Load("S = 'a' S 'b' | 'c' ;"), 0, 1, 3, 3)
	if one, n := d.Run([]int{0, 2, 1}); !ok || one != 0 || n != 1 {
		t.Errorf("%v: %d, %d", ok, one, n)
	}
	// By two terminals, of which the second one may be the end.
	d, ok = dfa.Build(sample.Load("s = 'a' s | 'a' ;"), 0, 16, 100, 100)
	if one, n := d.Run([]int{0, 0}); !ok || one != 0 || n != 2 {
		t.Errorf("%v: %d, %d", ok, one, n)
	}
	if one, n := d.Run([]int{0}); one != 1 || n != 2 {
		t.Errorf("%d, %d", one, n)
	}
}

// P15.1: within which limits there is an automaton, to the number.
func TestLimits(t *testing.T) {
	for _, c := range []struct {
		text                 string
		v                    int
		deep, places, states int
	}{
		// One rule is meant by the first state. It is closed all the same.
		{"s = 'a' ;", 0, 0, 1, 1}, {"s = ;", 0, 0, 2, 1}, {"s = t u ; t = 'a' | 'b' ; u = 'c' ;", 0, 1, 3, 1},
		// A state for each rule, by a terminal or by the end.
		{"s = 'a' | 'b' ;", 0, 0, 2, 3}, {"s = 'a' | ;", 0, 0, 3, 3}, {"s = 'a' | 'b' | 'c' | ;", 0, 0, 5, 5},
		// More than one state means the rule 0: by a, and by b, another thing comes then. They count as one.
		{"s = t | 'c' ; t = 'a' 'x' | 'b' 'y' ;", 0, 1, 4, 3},
		// The chapter's example, and the same by its end.
		{fork, 0, 1, 8, 3}, {"s = a | b 'c' ; a = 'a' a | ; b = 'a' b | ;", 0, 1, 9, 3},
		// What is behind a rule's only meaning isn't gone on from: there t would begin with itself.
		{"s = 'a' 'a' t | 'b' ; t = t 'c' | 'd' ;", 0, 0, 2, 3},
		// A variable that isn't the start, by what follows it.
		{"s = 'a' t 'c' | 'c' ; t = 'b' t | ;", 1, 1, 5, 3}, {"s = 'a' t 'b' | 'c' ; t = 'b' t | ;", 1, 1, 7, 4},
		// Two states that mean none, of which the second one is nearer to the end.
		{"s = t 'x' 'b' | u ; t = 'b' t | ; u = t 'x' 'c' ;", 0, 2, 9, 4},
	} {
		for _, l := range [][3]int{{0, 0, 0}, {9, 9, 9}, {-1, 9, 9}, {9, -1, 9}, {9, 9, -1}, {99, 0, 0}, {0, 9999, 0}, {0, 0, 9999}, {9999, 9999, 9999}} {
			d, ok := dfa.Build(sample.Load(c.text), c.v, c.deep+l[0], c.places+l[1], c.states+l[2])
			if want := min(l[0], l[1], l[2]) >= 0; ok != want || !ok && (d.Next != nil || d.Rule != nil) {
				t.Errorf("%s: %v: %v, %v", c.text, l, d, ok)
			}
		}
		for _, l := range [][3]int{{math.MinInt, 100, 100}, {16, math.MinInt, 100}, {16, 100, math.MinInt}, {-1, 100, 100}, {16, -1, 100}, {16, 100, -1}, {16, 0, 100}, {16, 100, 0}} {
			if d, ok := dfa.Build(sample.Load(c.text), c.v, l[0], l[1], l[2]); ok || d.Next != nil || d.Rule != nil {
				t.Errorf("%s: %v: %v", c.text, l, d)
			}
		}
		if _, ok := dfa.Build(sample.Load(c.text), c.v, math.MaxInt, math.MaxInt, math.MaxInt); !ok {
			t.Errorf("%s: none", c.text)
		}
	}
}

// P15.1: what no automaton tells, whatever the limits.
func TestNone(t *testing.T) {
	for _, c := range []struct {
		text string
		v    int
	}{
		// There is no such variable.
		{"s = 'a' ;", 1}, {"s = 'a' ;", -1}, {"s = 'a' ;", ^0}, {"s = 'a' ;", 64}, {"s = 'a' ;", math.MaxInt}, {"s = 'a' ;", math.MinInt},
		// A variable that begins with itself.
		{"s = s 'a' | 'b' ;", 0}, {"s = t 'a' | 'b' ; t = s 'c' | 'd' ;", 1}, {"s = t s 'a' | 'b' ; t = ;", 0},
		// It comes up where all have one Alt, too, at first or behind a terminal.
		{"s = t ; t = t 'c' | 'd' ;", 0}, {"s = 'a' t | 'b' ; t = t 'c' | 'd' ;", 0},
		// More than one Alt at the end, at once, or behind terminals.
		{"s = t | u ; t = ; u = ;", 0}, {"s = t | u ; t = 'a' ; u = 'a' ;", 0}, {"s = t | u ; t = 'a' t | ; u = 'a' u | ;", 0}, {"s = 'b' | t | u ; t = 'a' 'a' 'a' | 'c' ; u = 'a' u | 'd' | 'a' ;", 0},
		// As many as come next must be kept in mind.
		{"s = a 'b' | b 'c' ; a = 'x' a 'y' | ; b = 'x' b 'y' | ;", 0},
	} {
		for _, l := range [][3]int{{16, 10000, 256}, {16, math.MaxInt, 256}, {math.MaxInt, math.MaxInt, math.MaxInt}, {3, 20, 9}} {
			if d, ok := dfa.Build(sample.Load(c.text), c.v, l[0], l[1], l[2]); ok || len(d.Next) > 0 || len(d.Rule) > 0 {
				t.Errorf("%s %d: %v: %v", c.text, c.v, l, d)
			}
		}
	}
}

// chain is variables of which each but the last one leads to the next one, with a terminal behind it, behind a start of two rules.
func chain(n int) api.Grammar {
	var b strings.Builder
	for v := range n {
		b.WriteString(sample.Name(v) + " = " + sample.Name(v+1) + " 'a' ; ")
	}
	return sample.Load("s = " + sample.Name(0) + " 'b' | 'd' ; " + b.String() + sample.Name(n) + " = 'c' ;")
}

// P15.1: no deeper than 16 counts as 16.
func TestDeepest(t *testing.T) {
	for n, want := range map[int]bool{1: true, 14: true, 15: true, 16: false, 17: false, 50: false} {
		for _, deep := range []int{16, 17, 18, 100, math.MaxInt} {
			d, ok := dfa.Build(chain(n), 0, deep, 1000, 100)
			if ok != want {
				t.Errorf("%d, %d: %v", n, deep, ok)
			}
			if rule, steps := d.Run([]int{2}); ok && (rule != 0 || steps != 1) {
				t.Errorf("%d, %d: %d, %d", n, deep, rule, steps)
			}
		}
		if _, ok := dfa.Build(chain(n), 0, n, 1000, 100); ok {
			t.Errorf("%d: one that isn't as deep", n)
		}
	}
}

// rings is a grammar of whose start's first two rules each comes round by so many terminals: so that there are as many states as both numbers' product, if these have no divisor in common, and one for each rule. With more rules there is one more at the beginning, to which one doesn't come back.
func rings(a, b, more int) api.Grammar {
	text := "s = a0 | b0"
	for i := range more {
		text += " | 'c" + string(rune('a'+i)) + "'"
	}
	ring := func(name string, n int) {
		for i := range n {
			text += " ; " + name + sample.Name(i)[1:] + " = 'a' " + name + sample.Name((i + 1) % n)[1:]
			if i == 0 {
				text += " | '" + name + "z'"
			}
		}
	}
	ring("a", a)
	ring("b", b)
	return sample.Load(text + " ;")
}

// P15.1: more states than 256 count as 256; those that mean a rule are counted, once a rule.
func TestMostStates(t *testing.T) {
	for _, c := range []struct{ a, b, more, all int }{{2, 3, 0, 8}, {2, 3, 2, 11}, {11, 23, 0, 255}, {9, 28, 1, 256}, {7, 36, 2, 257}, {15, 17, 0, 257}, {25, 32, 0, 802}} {
		g := rings(c.a, c.b, c.more)
		for _, states := range []int{c.all - 1, c.all, c.all + 1, 255, 256, 257, 1000, math.MaxInt} {
			d, ok := dfa.Build(g, 0, 16, 10000, states)
			if want := states >= c.all && c.all <= 256; ok != want {
				t.Errorf("%v: %d: %v", c, states, ok)
			}
			if !ok {
				continue
			}
			for n := range 60 {
				isRing(t, g, d, slices.Repeat([]int{slices.Index(g.Terms, "a")}, n), n%c.a == 0, n%c.b == 0)
			}
		}
	}
}

// isRing tells a fault if what comes behind some terminals doesn't tell just the rules that it may.
func isRing(t *testing.T, g api.Grammar, d dfa.Dfa, word []int, one, two bool) {
	t.Helper()
	for rule, c := range []struct {
		last string
		may  bool
	}{{"az", one}, {"bz", two}} {
		rest := append(slices.Clone(word), slices.Index(g.Terms, c.last))
		want, steps := rule, len(rest)
		if !c.may {
			want, steps = -1, len(rest)-1
		}
		if got, n := d.Run(rest); got != want || n != steps {
			t.Errorf("%v: %d, %d, want %d, %d", rest, got, n, want, steps)
		}
	}
}

// P15.1: a text of whatever automaton isn't empty, whatever the grammar.
func TestText(t *testing.T) {
	g := sample.Load(fork)
	d, _ := dfa.Build(g, 0, 16, 100, 100)
	for _, one := range []dfa.Dfa{d, {}, hand(), {Next: [][]int{{}}, Rule: []int{-1}}, {Next: [][]int{nil, {5, -9}}}, {Rule: []int{1, 2}}} {
		for _, h := range []api.Grammar{g, {}, sample.Load("s = ;")} {
			if one.Text(h) == "" {
				t.Errorf("%v: no text", one)
			}
		}
	}
	text := hand().Text(g)
	if text != hand().Text(g) || text == d.Text(g) {
		t.Error(text)
	}
}

// Rule 4: what is told is new memory, and what is handed in stays, and may be turned behind the call, but for the grammar.
func TestNewMemory(t *testing.T) {
	g := sample.Load(fork)
	d, _ := dfa.Build(g, 0, 16, 100, 100)
	again, _ := dfa.Build(g, 0, 16, 100, 100)
	want := d.Text(g)
	for at, row := range again.Next {
		row = row[:cap(row)]
		for i := range row {
			row[i] = 99
		}
		for _, other := range again.Next[at+1:] {
			if slices.Contains(other, 99) {
				t.Fatal("rows share their memory")
			}
		}
		again.Rule[at] = 99
	}
	if more, _ := dfa.Build(g, 0, 16, 100, 100); d.Text(g) != want || more.Text(g) != want || !gram.Same(g, sample.Load(fork)) {
		t.Errorf("%s, %s, want %s", d.Text(g), more.Text(g), want)
	}
	// The automaton hangs on no grammar any more.
	for i := range g.Rules {
		g.Rules[i] = api.Rule{Left: 7}
	}
	if rule, n := d.Run([]int{0, 2}); rule != 1 || n != 2 {
		t.Errorf("%d, %d", rule, n)
	}
}

// Rule 1: no call panics, whatever it is handed.
func TestNoPanic(t *testing.T) {
	wild := sample.Wild()
	for _, g := range append(sample.Odd(), sample.Load(fork)) {
		for _, v := range []int{-1, 0, 1, 2, 64, math.MinInt, math.MaxInt} {
			for _, limit := range wild {
				dfa.Build(g, v, limit, 300, 20)
				dfa.Build(g, v, 5, min(limit, 300), 20)
				d, ok := dfa.Build(g, v, 5, 300, limit)
				d.Text(g)
				if d.Run([]int{0, 1, 0}); !ok && (d.Next != nil || d.Rule != nil) {
					t.Fatalf("%v: %v", g, d)
				}
			}
		}
	}
	var odd []dfa.Dfa
	for _, a := range wild {
		for _, b := range wild {
			for _, c := range wild {
				odd = append(odd, dfa.Dfa{Next: [][]int{{a, b}, {c}, nil, {a, b, c}}, Rule: []int{min(c, -1), a, b}}, dfa.Dfa{Next: [][]int{{a, b, c}}, Rule: []int{-1, -1, a}}, dfa.Dfa{Rule: []int{a}}, dfa.Dfa{Next: [][]int{{a, b}, {b, a}}})
			}
		}
	}
	for _, d := range odd {
		d.Text(api.Grammar{})
		for _, a := range wild {
			d.Run(nil)
			d.Run([]int{a})
			d.Run([]int{0, 1, a, 0})
		}
	}
}
