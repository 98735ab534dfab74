package plan_test

import (
	"math"
	"slices"
	"strings"
	"testing"

	"accidence/api"
	"accidence/first"
	"accidence/gram"
	"accidence/plan"
	"accidence/sample"
	"accidence/table"
)

// fork is the chapter's example.
const fork = "s = a 'b' | b 'c' ; a = 'a' a | ; b = 'a' b | ;"

// whole is options by which one looks as far as one may.
func whole() plan.Options {
	return plan.Options{K: api.MaxK, Budget: api.MaxBudget, Deep: api.MaxStack, Places: 1000, States: api.MaxStates}
}

// of is options of so many terminals, a budget, and no automata.
func of(k, budget int) plan.Options { return plan.Options{K: k, Budget: budget} }

// isPlan tells a fault if a plan's verdict isn't one, or its variables aren't decided so.
func isPlan(t *testing.T, text string, o plan.Options, verdict int, how ...int) {
	t.Helper()
	p := plan.New(sample.Load(text), o)
	var got []int
	g, _ := p.Grammar()
	for v := range g.Vars {
		got = append(got, p.How(v))
	}
	if p.Verdict() != verdict || !slices.Equal(got, how) {
		t.Errorf("%s%v: %d, %v, want %d, %v", text, o, p.Verdict(), got, verdict, how)
	}
	for _, v := range []int{math.MinInt, -1, ^0, len(g.Vars), 64, math.MaxInt} {
		if p.How(v) != plan.Open || p.Predict(v, []int{0}) != -1 {
			t.Errorf("%s: %d: %d, %d", text, v, p.How(v), p.Predict(v, []int{0}))
		}
	}
}

// P20.1: the verdicts, and the ways, have the numbers of the chapter.
func TestNumbers(t *testing.T) {
	if got := [...]int{plan.Clean, plan.Clash, plan.Unknown, plan.Empty, plan.Single, plan.Looked, plan.Open}; got != [...]int{0, 1, 2, 3, 0, -1, -2} {
		t.Errorf("%v", got)
	}
}

// P20.1: the chapter's example, and those of the whole.
func TestExamples(t *testing.T) {
	far := plan.Options{K: 2, Budget: 10000, Deep: 8, Places: 400, States: 100}
	isPlan(t, fork, far, plan.Clean, plan.Looked, 1, 1)
	isPlan(t, fork, of(2, 10000), plan.Clash, plan.Open, 1, 1)
	isPlan(t, fork, of(4, 10000), plan.Clash, plan.Open, 1, 1)
	isPlan(t, fork, of(2, 0), plan.Unknown, plan.Open, plan.Open, plan.Open)
	isPlan(t, "S = 'a' S 'b' | 'c' ;", of(1, 10000), plan.Clean, 1)
	isPlan(t, "s = 'a' s | 'a' ;", of(1, 10000), plan.Clash, plan.Open)
	isPlan(t, "s = 'a' s | 'a' ;", of(2, 10000), plan.Clean, 2)
	isPlan(t, "s = s 'a' s | 'b' ;", whole(), plan.Clash, plan.Open)
	isPlan(t, "s = t s 'a' | 'b' ; t = ;", whole(), plan.Clash, plan.Open, plan.Single)
}

// P20.1: how variables are decided, and what is known, however far one looks.
func TestHow(t *testing.T) {
	const (
		one   = "s = 'a' | 'b' ;"
		three = "s = 'a' 'a' 'a' | 'a' 'a' 'b' | t ; t = 'c' t | 'c' 'd' ;"
		twin  = "s = t | u ; t = 'a' t | 'b' ; u = 'a' u | 'b' ;"
	)
	long := plan.Options{K: 1, Budget: 10000, Deep: 8, Places: 400, States: 100}
	none := plan.Options{Deep: 8, Places: 400, States: 100}
	for _, c := range []struct {
		text    string
		o       plan.Options
		verdict int
		how     []int
	}{
		// One rule, whatever else.
		{"s = 'a' ;", of(0, 0), plan.Clean, []int{0}}, {"s = ;", of(-5, -5), plan.Clean, []int{0}}, {"s = t t ; t = 'a' 'b' ;", plan.Options{}, plan.Clean, []int{0, 0}},
		// K below 1 counts as 1, above 4 as that.
		{one, of(0, 100), plan.Clean, []int{1}}, {one, of(math.MinInt, 100), plan.Clean, []int{1}}, {one, of(1, 100), plan.Clean, []int{1}}, {one, of(4, 100), plan.Clean, []int{1}}, {one, of(math.MaxInt, 100), plan.Clean, []int{1}},
		{"s = 'a' s | 'a' ;", of(0, 100), plan.Clash, []int{-2}}, {"s = 'a' 'a' 'a' 'a' | 'a' 'a' 'a' ;", of(5, 100), plan.Clean, []int{4}}, {"s = 'a' 'a' 'a' 'a' | 'a' 'a' 'a' ;", of(3, 100), plan.Clash, []int{-2}}, {"s = 'a' 'a' 'a' 'a' 'a' | 'a' 'a' 'a' 'a' ;", of(math.MaxInt, 100), plan.Clash, []int{-2}},
		// The first number that is enough, of each variable.
		{three, of(1, 1000), plan.Clash, []int{-2, -2}}, {three, of(2, 1000), plan.Clash, []int{-2, 2}}, {three, of(3, 1000), plan.Clean, []int{3, 2}}, {three, of(4, 1000), plan.Clean, []int{3, 2}},
		// Sets of as many words as there are, and of one more than there may be: of one terminal 2, of two 3; and of one 3.
		{"s = 'a' s | 'a' ;", of(2, 3), plan.Clean, []int{2}}, {"s = 'a' s | 'a' ;", of(2, 2), plan.Unknown, []int{-2}}, {"s = 'a' s | 'a' ;", of(1, 2), plan.Clash, []int{-2}}, {"s = 'a' s | 'a' ;", of(1, 1), plan.Unknown, []int{-2}},
		{one, of(1, 3), plan.Clean, []int{1}}, {one, of(1, 2), plan.Unknown, []int{-2}}, {one, of(1, math.MinInt), plan.Unknown, []int{-2}}, {one, of(1, math.MaxInt), plan.Clean, []int{1}},
		// No sets, but automata: nothing clashes where all is decided, nor is it known that something does, where not.
		{one, none, plan.Clean, []int{-1}}, {fork, none, plan.Clean, []int{-1, -1, -1}}, {twin, none, plan.Unknown, []int{-2, -1, -1}}, {three, none, plan.Clean, []int{-1, -1}},
		// Tables first, automata where these aren't enough.
		{three, long, plan.Clean, []int{-1, -1}}, {twin, long, plan.Clash, []int{-2, 1, 1}}, {"s = 'a' s 'a' | 'a' | 'b' ;", long, plan.Clash, []int{-2}},
		// Automata as great as they must be, and not quite.
		{fork, plan.Options{K: 1, Budget: 100, Deep: 1, Places: 8, States: 3}, plan.Clean, []int{-1, 1, 1}}, {fork, plan.Options{K: 1, Budget: 100, Deep: 0, Places: 8, States: 3}, plan.Clash, []int{-2, 1, 1}}, {fork, plan.Options{K: 1, Budget: 100, Deep: 1, Places: 7, States: 3}, plan.Clash, []int{-2, 1, 1}}, {fork, plan.Options{K: 1, Budget: 100, Deep: 1, Places: 8, States: 2}, plan.Clash, []int{-2, 1, 1}},
		{fork, plan.Options{K: math.MaxInt, Budget: math.MaxInt, Deep: math.MaxInt, Places: 1000000, States: math.MaxInt}, plan.Clean, []int{-1, 1, 1}}, {fork, plan.Options{K: math.MinInt, Budget: math.MinInt, Deep: math.MinInt, Places: math.MinInt, States: math.MinInt}, plan.Unknown, []int{-2, -2, -2}},
		// A variable that begins with itself isn't decided, but if it has one rule.
		{"s = s 'a' | 'b' ;", whole(), plan.Clash, []int{-2}}, {"s = t ; t = s 'a' | 'b' ;", whole(), plan.Clash, []int{0, -2}}, {"s = s 'a' | 'b' ;", none, plan.Unknown, []int{-2}}, {"s = s | 'a' ;", whole(), plan.Clash, []int{-2}},
		// What is of no use is left out, and has no part in it.
		{"s = 'a' s | t | u ; t = ; u = u 'b' ; w = 'a' | 'a' 'b' ;", of(1, 100), plan.Clean, []int{1, 0}}, {"s = 'a' | t ; t = t | t 'a' ;", of(1, 1), plan.Clean, []int{0}}, {"s = t ; u = 'a' | u 'a' ; t = 'a' | 'b' ;", of(1, 100), plan.Clean, []int{0, 1}},
		// The start becomes no word.
		{"s = s ;", whole(), plan.Empty, nil}, {"s = 'a' t | s s ; t = 'b' t ; u = 'a' ;", whole(), plan.Empty, nil},
	} {
		isPlan(t, c.text, c.o, c.verdict, c.how...)
	}
}

// P20.1: what vanishes by too many steps isn't known.
func TestWide(t *testing.T) {
	// The variables of fine vanish by 8191 steps, 4095 and so on.
	fine := sample.Doubled(13, 2, "", "")
	const all = "v0 v3 v4 v5 v9 v11 v12"
	for _, c := range []struct {
		text string
		want int
	}{
		{"s = v0 ; " + fine, plan.Clean}, {"s = v0 'a' ; " + fine, plan.Clean},
		// 10000 of them, and one more; in the start, and in another one.
		{"s = " + all + " ; " + fine, plan.Clean}, {"s = " + all + " v12 ; " + fine, plan.Unknown}, {"s = " + all + " 'a' v12 ; " + fine, plan.Clean}, {"s = v0 v0 'a' ; " + fine, plan.Clean},
		{"s = 'a' t ; t = " + all + " ; " + fine, plan.Clean}, {"s = t 'a' ; t = " + all + " v12 ; " + fine, plan.Unknown}, {"s = t t 'a' ; t = " + all + " ; " + fine, plan.Clean}, {"s = t t ; t = " + all + " ; " + fine, plan.Unknown},
		// By one of more rules, the other ones of which pass some terminals.
		{"s = 'a' s | t | 'b' u u ; t = v12 ; u = " + all + " | 'a' ; " + fine, plan.Clash}, {"s = 'a' s | 'b' 'a' u ; u = " + all + " | 'a' ; " + fine, plan.Clean}, {"s = 'a' s | 'b' 'a' u ; u = 'a' | " + all + " v12 ; " + fine, plan.Unknown}, {"s = " + all + " | 'a' s ; " + fine, plan.Clean}, {"s = 'a' s | " + all + " v12 ; " + fine, plan.Unknown},
		// So many that there are no numbers for them.
		{sample.Doubled(64, 24, "", ""), plan.Unknown}, {sample.Doubled(64, 24, "", "'a'"), plan.Clean}, {"s = v0 | 'a' s ; " + sample.Doubled(63, 24, "", ""), plan.Unknown},
		// What isn't of use has no part in it.
		{"s = 'a' ; " + sample.Doubled(14, 2, "", ""), plan.Clean},
	} {
		g := sample.Load(c.text)
		for _, o := range []plan.Options{whole(), of(1, 10000), of(2, 10000)} {
			if got := plan.New(g, o).Verdict(); got != c.want {
				t.Errorf("%s%v: %d, want %d", c.text, o, got, c.want)
			}
		}
	}
	// What is open comes first.
	isPlan(t, "s = v0 v0 'a' | 'a' ; v0 = t t t t ; t = u u u u u u u u u u ; u = v v v v v v v v v v ; v = w w w w w w w w w w ; w = x x ; x = ;", of(1, 100), plan.Clash, plan.Open, 0, 0, 0, 0, 0, 0)
	isPlan(t, "s = v0 v0 'a' | 'a' ; v0 = t t t t ; t = u u u u u u u u u u ; u = v v v v v v v v v v ; v = w w w w w w w w w w ; w = x x ; x = ;", of(1, 0), plan.Unknown, plan.Open, 0, 0, 0, 0, 0, 0)
}

// P20.1: the grammar of a plan, and which of its variables was which one.
func TestGrammar(t *testing.T) {
	for _, c := range []struct {
		text, want string
		were       []int
	}{
		{fork, "s = a 'b' | b 'c' ;\na = 'a' a | ;\nb = 'a' b | ;\n", []int{0, 1, 2}},
		{"s = 'a' s | t | u ; u = u 'b' ; w = 'a' ; t = %2 'c' | ;", "s = 'a' s | t ;\nt = %2 'c' | ;\n", []int{0, 3}},
	} {
		p := plan.New(sample.Load(c.text), whole())
		g, were := p.Grammar()
		if gram.Print(g) != c.want || !slices.Equal(were, c.were) || !gram.Right(g) {
			t.Errorf("%s: %s, %v", c.text, gram.Print(g), were)
		}
	}
}

// P20.1: of a grammar whose start becomes no word there is nothing.
func TestEmpty(t *testing.T) {
	p := plan.New(sample.Load("s = s | 'a' t ; t = t 'a' ; u = 'b' ;"), whole())
	g, were := p.Grammar()
	if len(g.Terms)+len(g.Vars)+len(g.Rules)+len(were) > 0 || p.Verdict() != plan.Empty {
		t.Errorf("%v, %v, %d", g, were, p.Verdict())
	}
	for _, k := range sample.Wild() {
		if p.Table(k) != nil || p.How(k) != plan.Open || p.Predict(k, []int{0, 1}) != -1 || p.Bound(k) != 0 {
			t.Errorf("%d: %v, %d, %d, %d", k, p.Table(k), p.How(k), p.Predict(k, []int{0, 1}), p.Bound(k))
		}
	}
}

// rows is all rows of a table.
func rows(g api.Grammar, made *table.Table) [][]table.Row {
	var list [][]table.Row
	for v := range g.Vars {
		list = append(list, made.Rows(v))
	}
	return list
}

// sameRows tells whether two tables have the same rows.
func sameRows(g api.Grammar, a, b *table.Table) bool {
	return a.K == b.K && slices.EqualFunc(rows(g, a), rows(g, b), func(x, y []table.Row) bool {
		return slices.EqualFunc(x, y, func(m, n table.Row) bool {
			return slices.Equal(m.Look, n.Look) && slices.Equal(m.Rules, n.Rules)
		})
	})
}

// P20.1: there is a table for each number of terminals up to K for which there are sets, whether or not one was needed to decide.
func TestTable(t *testing.T) {
	for _, c := range []struct {
		text string
		o    plan.Options
		most int
	}{
		{fork, of(4, 10000), 4}, {fork, of(9, 10000), 4}, {fork, whole(), 4}, {fork, of(2, 10000), 2}, {fork, of(-1, 10000), 1}, {fork, of(4, 0), 0}, {fork, plan.Options{K: 4, Deep: 8, Places: 400, States: 100}, 0},
		// Decided by one terminal, or none.
		{"s = 'a' s 'b' | ;", of(4, 10000), 4}, {"s = 'a' s 'b' | ;", of(2, 10000), 2}, {"s = t t ; t = 'a' 'b' 'c' ;", of(3, 10000), 3},
		// Sets of 4, 6, 8 and 10 words.
		{"s = 'a' s 'b' | ;", of(4, 10), 4}, {"s = 'a' s 'b' | ;", of(4, 9), 3}, {"s = 'a' s 'b' | ;", of(4, 7), 2}, {"s = 'a' s 'b' | ;", of(4, 6), 2}, {"s = 'a' s 'b' | ;", of(4, 5), 1}, {"s = 'a' s 'b' | ;", of(4, 4), 1}, {"s = 'a' s 'b' | ;", of(4, 3), 0},
	} {
		g := sample.Load(c.text)
		p := plan.New(g, c.o)
		for _, k := range append(sample.Wild(), 2, 3, 4, 5, 6) {
			made := p.Table(k)
			if (made != nil) != (1 <= k && k <= c.most) {
				t.Errorf("%s%v: %d: %v", c.text, c.o, k, made)
			}
			if made == nil {
				continue
			}
			sets, _ := first.Of(g, k, api.MaxBudget)
			if !sameRows(g, made, table.Of(g, sets)) {
				t.Errorf("%s%v: %d: %v", c.text, c.o, k, rows(g, made))
			}
		}
	}
}

// P20.1: by which rule variables are to be replaced.
func TestPredict(t *testing.T) {
	two := "s = 'a' s | 'a' t ; t = 'b' | 'c' u ; u = 'd' ;"
	for _, c := range []struct {
		text string
		o    plan.Options
		v    int
		rest []int
		want int
	}{
		// One rule, whatever comes next.
		{two, of(2, 100), 2, nil, 4}, {two, of(2, 100), 2, []int{0, 1}, 4}, {two, of(2, 100), 2, sample.Wild(), 4}, {two, of(2, 0), 2, []int{0}, 4}, {"s = 'a' ;", of(1, 0), 0, nil, 0},
		// By two terminals, or one.
		{two, of(2, 100), 0, []int{0, 0}, 0}, {two, of(2, 100), 0, []int{0, 0, 77}, 0}, {two, of(2, 100), 0, []int{0, 1}, 1}, {two, of(2, 100), 0, []int{0, 2, 0}, 1}, {two, of(2, 100), 1, []int{1}, 2}, {two, of(2, 100), 1, []int{1, 1, 1}, 2}, {two, of(2, 100), 1, []int{2}, 3},
		{two, of(2, 100), 0, []int{0}, -1}, {two, of(2, 100), 0, nil, -1}, {two, of(2, 100), 0, []int{1, 0}, -1}, {two, of(2, 100), 0, []int{0, 3}, -1}, {two, of(2, 100), 0, []int{0, -1}, -1}, {two, of(2, 100), 0, []int{0, ^0}, -1}, {two, of(2, 100), 0, []int{math.MaxInt, math.MinInt}, -1}, {two, of(2, 100), 1, nil, -1}, {two, of(2, 100), 1, []int{0}, -1}, {two, of(2, 100), 1, []int{-1}, -1},
		// By the end.
		{"s = 'a' s | ;", of(1, 100), 0, nil, 1}, {"s = 'a' s | ;", of(1, 100), 0, []int{0}, 0}, {"s = 'a' s | ;", of(1, 100), 0, []int{api.End}, -1}, {"s = 'a' s | 'a' ;", of(2, 100), 0, []int{0}, 1}, {"s = 'a' s | 'a' ;", of(2, 100), 0, []int{0, 0}, 0}, {"s = 'a' s | 'a' ;", of(2, 100), 0, []int{0, api.End}, -1},
		// By an automaton.
		{fork, whole(), 0, []int{0, 0, 0, 0, 0, 0, 1}, 0}, {fork, whole(), 0, []int{0, 0, 0, 0, 0, 0, 2}, 1}, {fork, whole(), 0, []int{1, 9, 9}, 0}, {fork, whole(), 0, []int{2}, 1}, {fork, whole(), 0, []int{0, 0, 0}, -1}, {fork, whole(), 0, []int{0, 3}, -1}, {fork, whole(), 0, []int{-1}, -1}, {fork, whole(), 0, nil, -1}, {fork, whole(), 1, []int{0}, 2}, {fork, whole(), 1, []int{1}, 3}, {fork, whole(), 1, []int{2}, -1},
		// Of one that is open none is, though some terminals would tell it.
		{fork, of(4, 100), 0, []int{1}, -1}, {fork, of(4, 100), 0, []int{0, 1}, -1}, {"s = 'a' s | 'a' ;", of(1, 100), 0, []int{0}, -1}, {"s = 'a' s | 'a' | 'b' ;", of(1, 100), 0, []int{1}, -1},
		// Rules are those of the plan's grammar.
		{"s = u 'a' | 'b' t | t ; u = u ; t = 'a' | 'c' ;", of(1, 100), 0, []int{1}, 0}, {"s = u 'a' | 'b' t | t ; u = u ; t = 'a' | 'c' ;", of(1, 100), 0, []int{0}, 1}, {"s = u 'a' | 'b' t | t ; u = u ; t = 'a' | 'c' ;", of(1, 100), 1, []int{2}, 3}, {"s = u 'a' | 'b' t | t ; u = u ; t = 'a' | 'c' ;", of(1, 100), 2, []int{2}, -1},
	} {
		rest := slices.Clone(c.rest)
		if got := plan.New(sample.Load(c.text), c.o).Predict(c.v, rest); got != c.want || !slices.Equal(rest, c.rest) {
			t.Errorf("%s%v: %d ahead of %v: %d, want %d", c.text, c.o, c.v, c.rest, got, c.want)
		}
	}
}

// P20.1: a bound is so many times the terminals and one, whatever the options, for as many terminals as there are numbers for.
func TestBound(t *testing.T) {
	for _, text := range []string{fork, "s = 'a' ;", "s = ;", "s = s s | 'a' ;", sample.Doubled(64, 24, "", ""), "s = 'a' s | v0 ; " + sample.Doubled(13, 2, "", "")} {
		g := sample.Load(text)
		p := plan.New(g, of(1, 100))
		one := p.Bound(0)
		if one < 1 {
			t.Fatalf("%s: %d", text, one)
		}
		for _, o := range []plan.Options{whole(), of(1, 0), of(2, 10000)} {
			if got := plan.New(sample.Renamed(g), o).Bound(0); got != one {
				t.Errorf("%s%v: %d, want %d", text, o, got, one)
			}
		}
		for _, n := range []int{1, 2, 3, 10, 2048, 1 << 20} {
			if p.Bound(n) != (n+1)*one {
				t.Errorf("%s%d: %d, want %d times %d", text, n, p.Bound(n), n+1, one)
			}
		}
		last := 1
		for _, n := range []int{math.MinInt, -1000, -2, -1, 0, 1, 1 << 31, math.MaxInt / one / 2, math.MaxInt/one - 2, math.MaxInt/one - 1, math.MaxInt / one, math.MaxInt/one + 1, math.MaxInt - 1, math.MaxInt} {
			if p.Bound(n) < last {
				t.Errorf("%s%d: %d, below %d", text, n, p.Bound(n), last)
			}
			last = p.Bound(n)
		}
	}
}

// Rule 4: what is told is new memory, and what is handed in stays, and may be turned behind the call.
func TestNewMemory(t *testing.T) {
	const text = "s = %2 a 'b' | b 'c' | u ; a = 'a' a | ; b = 'a' b | ; u = u ;"
	given := sample.Load(text)
	p := plan.New(given, plan.Options{K: 2, Budget: 1000, Deep: 8, Places: 400, States: 100})
	if !gram.Same(given, sample.Load(text)) {
		t.Error("turned")
	}
	told := func() string {
		g, were := p.Grammar()
		var b strings.Builder
		b.WriteString(gram.Print(g))
		for _, n := range append(were, p.How(0), p.How(1), p.Predict(0, []int{0, 0, 1}), p.Predict(1, []int{0}), p.Predict(1, []int{1}), p.Table(1).K, p.Table(2).K, len(p.Table(2).Rows(0)), p.Bound(3), p.Verdict()) {
			b.WriteString(" " + string(rune('0'+n+9)))
		}
		return b.String()
	}
	want := told()
	g, were := p.Grammar()
	for i := range were[:cap(were)] {
		were[:cap(were)][i] = 77
	}
	for i := range g.Rules {
		for at := range g.Rules[i].Right {
			g.Rules[i].Right[at] = ^0
		}
		g.Rules[i] = api.Rule{Left: 1}
	}
	g.Vars[0], g.Terms[0] = "x", "y"
	for _, k := range []int{1, 2} {
		p.Table(k).K = 0
		for _, row := range p.Table(k).Rows(1) {
			row.Rules[0] = 77
		}
	}
	if got := told(); got != want {
		t.Errorf("%s, want %s", got, want)
	}
	if given.Rules[0].Right[0] != 1 || given.Vars[0] != "s" {
		t.Errorf("%v", given)
	}
}

// Rule 1: no call panics, whatever it is handed.
func TestNoPanic(t *testing.T) {
	ask := func(p *plan.Plan) {
		p.Grammar()
		p.Verdict()
		for _, a := range append(sample.Wild(), 2, 3) {
			p.How(a)
			p.Table(a)
			p.Bound(a)
			p.Predict(a, nil)
			p.Predict(a, []int{0, a, 1})
			p.Predict(a, sample.Wild())
		}
	}
	for _, g := range sample.Odd() {
		for i, a := range sample.Wild() {
			b := sample.Wild()[(i*3+1)%7]
			ask(plan.New(g, plan.Options{K: a, Budget: b, Deep: b, Places: min(a, 300), States: a}))
			ask(plan.New(g, plan.Options{K: 2, Budget: 300, Deep: 6, Places: 300, States: 20}))
		}
	}
	for _, p := range []*plan.Plan{nil, {}} {
		ask(p)
		if p.Verdict() != plan.Empty {
			t.Errorf("%d", p.Verdict())
		}
	}
}
