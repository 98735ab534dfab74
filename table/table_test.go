package table_test

import (
	"math"
	"slices"
	"strconv"
	"strings"
	"testing"

	"accidence/api"
	"accidence/first"
	"accidence/gram"
	"accidence/sample"
	"accidence/strs"
	"accidence/table"
)

// tableOf is the table of a grammar for k terminals, and the sets of which it is made.
func tableOf(t *testing.T, g api.Grammar, k int) (*table.Table, *first.Sets) {
	t.Helper()
	s, ok := first.Of(g, k, api.MaxBudget)
	if !ok {
		t.Fatalf("%s%d: no sets", gram.Print(g), k)
	}
	made := table.Of(g, s)
	if made == nil || made.K != k {
		t.Fatalf("%s%d: %v", gram.Print(g), k, made)
	}
	return made, s
}

// word is a word as text: its terminals, one behind the other; - is the empty one.
func word(g api.Grammar, list []int) string {
	if len(list) == 0 {
		return "-"
	}
	one := ""
	for _, n := range list {
		one += g.Terms[n]
	}
	return one
}

// numbers is numbers as text, with commas between.
func numbers(list []int) string {
	var texts []string
	for _, n := range list {
		texts = append(texts, strconv.Itoa(n))
	}
	return strings.Join(texts, ",")
}

// rowsText is rows as text: each lookahead, and the rules that it means.
func rowsText(g api.Grammar, rows []table.Row) string {
	var list []string
	for _, row := range rows {
		list = append(list, word(g, row.Look)+":"+numbers(row.Rules))
	}
	return strings.Join(list, " ")
}

// clashesText is clashes as text: each variable, its rules, and the lookahead.
func clashesText(g api.Grammar, clashes []table.Clash) string {
	var list []string
	for _, c := range clashes {
		list = append(list, g.Vars[c.Var]+" "+numbers([]int{c.A, c.B})+" "+word(g, c.Look))
	}
	return strings.Join(list, "; ")
}

// cases is grammars all of which is of use, k, and the rows of each variable, and the clashes.
func cases() []struct {
	text    string
	k       int
	rows    []string
	clashes string
} {
	return []struct {
		text    string
		k       int
		rows    []string
		clashes string
	}{
		// The chapter's example, and its other numbers of terminals.
		{"s = 'a' s | 'a' ;", 1, []string{"a:0,1"}, "s 0,1 a"},
		{"s = 'a' s | 'a' ;", 2, []string{"a:1 aa:0"}, ""},
		{"s = 'a' s | 'a' ;", 4, []string{"a:1 aa:0 aaa:0 aaaa:0"}, ""},
		// The least of grammars.
		{"s = ;", 1, []string{"-:0"}, ""}, {"s = ;", 4, []string{"-:0"}, ""}, {"s = 'a' ;", 1, []string{"a:0"}, ""}, {"s = 'a' 'b' 'c' 'd' 'e' ;", 4, []string{"abcd:0"}, ""},
		// Rules that vanish are told by what follows.
		{"s = 'a' s 'b' | ;", 1, []string{"-:1 a:0 b:1"}, ""},
		{"s = 'a' s 'b' | ;", 2, []string{"-:1 aa:0 ab:0 b:1 bb:1"}, ""},
		{"s = 'i' s e | 'x' ; e = 'e' s | ;", 1, []string{"i:0 x:1", "-:3 e:2,3"}, "e 2,3 e"},
		{"s = 'i' s e | 'x' ; e = 'e' s | ;", 2, []string{"ii:0 ix:0 x:1 xe:1", "-:3 ei:2,3 ex:2,3"}, "e 2,3 ei"},
		{"s = | t ; t = ;", 3, []string{"-:0,1", "-:2"}, "s 0,1 -"},
		// The start of a word is no end: what follows a variable elsewhere counts all the same.
		{"s = 'x' a 'b' 'a' | 'y' a 'a' ; a = 'b' | ;", 1, []string{"x:0 y:1", "a:3 b:2,3"}, "a 2,3 b"},
		{"s = 'x' a 'b' 'a' | 'y' a 'a' ; a = 'b' | ;", 2, []string{"xb:0 ya:1 yb:1", "a:3 ba:2,3 bb:2"}, "a 2,3 ba"},
		// A variable that begins with itself.
		{"s = t s 'a' | 'b' ; t = ;", 1, []string{"b:0,1", "b:2"}, "s 0,1 b"},
		{"s = t s 'a' | 'b' ; t = ;", 2, []string{"b:1 ba:0,1", "ba:2"}, "s 0,1 ba"},
		// No number of terminals is enough.
		{"s = a 'b' | b 'c' ; a = 'a' a | ; b = 'a' b | ;", 1, []string{"a:0,1 b:0 c:1", "a:2 b:3", "a:4 c:5"}, "s 0,1 a"},
		{"s = a 'b' | b 'c' ; a = 'a' a | ; b = 'a' b | ;", 2, []string{"aa:0,1 ab:0 ac:1 b:0 c:1", "aa:2 ab:2 b:3", "aa:4 ac:4 c:5"}, "s 0,1 aa"},
		// Rows stand by their terminals' numbers, whichever rule they come from.
		{"s = 'c' | 'a' | 'd' | 'b' ;", 1, []string{"a:1 b:3 c:0 d:2"}, ""},
		{"s = 'b' 'a' | 'a' 'b' | 'b' | 'a' 'a' 'c' | 'a' | ;", 2, []string{"-:5 a:4 aa:3 ab:1 b:2 ba:0"}, ""},
		{"s = 'ab' | 'a' 'c' | 'a' ;", 2, []string{"a:2 ac:1 ab:0"}, ""},
		{"s = 'a' | 'c' | 'e' | t ; t = 'a' | 'b' | 'c' | 'd' | 'e' | 'f' ;", 1, []string{"a:0,3 b:3 c:1,3 d:3 e:2,3 f:3", "a:4 b:5 c:6 d:7 e:8 f:9"}, "s 0,3 a; s 1,3 c; s 2,3 e"},
		{"s = t | 'f' | 'd' | 'b' ; t = 'e' | 'c' | 'a' | 'b' ;", 1, []string{"a:0 b:0,3 c:0 d:2 e:0 f:1", "a:6 b:7 c:5 e:4"}, "s 0,3 b"},
		// Each two rules by the first lookahead of theirs, by their numbers, whichever lookahead stands first.
		{"s = t | u | v ; t = 'b' | 'c' ; u = 'a' | 'c' ; v = 'a' | 'b' ;", 1, []string{"a:1,2 b:0,2 c:0,1", "b:3 c:4", "a:5 c:6", "a:7 b:8"}, "s 0,1 c; s 0,2 b; s 1,2 a"},
		{"s = 'b' t | 'a' | t ; t = 'a' | 'b' ;", 1, []string{"a:1,2 b:0,2", "a:3 b:4"}, "s 0,2 b; s 1,2 a"},
		{"s = t | u | 'b' ; t = 'a' | 'b' ; u = 'a' | 'b' ;", 1, []string{"a:0,1 b:0,1,2", "a:3 b:4", "a:5 b:6"}, "s 0,1 a; s 0,2 b; s 1,2 b"},
		{"s = 'a' | t | u | v ; t = 'a' | ; u = 'a' | ; v = ;", 1, []string{"-:1,2,3 a:0,1,2", "-:5 a:4", "-:7 a:6", "-:8"}, "s 0,1 a; s 0,2 a; s 1,2 -; s 1,3 -; s 2,3 -"},
		// Those of more than one variable, by rising rules.
		{"s = t u | 'a' ; t = 'a' | 'a' 'b' ; u = 'c' | 'c' 'd' ;", 1, []string{"a:0,1", "a:2,3", "c:4,5"}, "s 0,1 a; t 2,3 a; u 4,5 c"},
		{"s = t u | 'a' ; t = 'a' | 'a' 'b' ; u = 'c' | 'c' 'd' ;", 2, []string{"a:1 ab:0 ac:0", "ab:3 ac:2", "c:4 cd:5"}, ""},
		{"s = 't' t | 'a' ; t = u u | 'b' ; u = 'b' | ;", 1, []string{"a:1 t:0", "-:2 b:2,3", "-:5 b:4,5"}, "t 2,3 b; u 4,5 b"},
		// A word that has two trees.
		{"s = s 'a' s | 'b' ;", 3, []string{"b:1 bab:0,1"}, "s 0,1 bab"},
	}
}

// P12.1: a variable's rows, one for each lookahead, in order, with all rules that it means.
func TestRows(t *testing.T) {
	for _, c := range cases() {
		g := sample.Load(c.text)
		made, _ := tableOf(t, g, c.k)
		if len(c.rows) != len(g.Vars) {
			t.Fatalf("%s: %d variables", c.text, len(g.Vars))
		}
		for v, want := range c.rows {
			if got := rowsText(g, made.Rows(v)); got != want {
				t.Errorf("%s %d: the rows of %d are %q, want %q", c.text, c.k, v, got, want)
			}
		}
	}
}

// P12.1: each variable is clear just if no row of it means two rules; one that there isn't is.
func TestClear(t *testing.T) {
	for _, c := range cases() {
		g := sample.Load(c.text)
		made, _ := tableOf(t, g, c.k)
		for v, rows := range c.rows {
			if got, want := made.Clear(v), !strings.Contains(rows, ","); got != want {
				t.Errorf("%s %d: is %d clear: %v", c.text, c.k, v, got)
			}
		}
	}
}

// P12.1: of each two rules the first lookahead that means both.
func TestClashes(t *testing.T) {
	for _, c := range cases() {
		g := sample.Load(c.text)
		made, _ := tableOf(t, g, c.k)
		if got := clashesText(g, made.Clashes()); got != c.clashes {
			t.Errorf("%s %d: %q, want %q", c.text, c.k, got, c.clashes)
		}
	}
}

// P12.1: what comes next is looked at for K terminals, or up to its end.
func TestFind(t *testing.T) {
	for _, c := range []struct {
		text string
		k, v int
		rest []int
		want string
	}{
		// The chapter's example.
		{"s = 'a' s | 'a' ;", 1, 0, []int{0}, "0,1"}, {"s = 'a' s | 'a' ;", 2, 0, []int{0, 0}, "0"}, {"s = 'a' s | 'a' ;", 2, 0, []int{0}, "1"},
		// What stands behind the first K isn't looked at, be it a terminal or not.
		{"s = 'a' s | 'a' ;", 1, 0, []int{0, 0, 0, 0, 0}, "0,1"}, {"s = 'a' s | 'a' ;", 2, 0, []int{0, 0, 0}, "0"}, {"s = 'a' s | 'a' ;", 1, 0, []int{0, math.MinInt, 77}, "0,1"}, {"s = 'a' s | 'a' ;", 2, 0, []int{0, 0, api.End}, "0"},
		// What is shorter is looked at whole: there is no row of which it is the beginning alone.
		{"s = 'a' 'b' | 'a' 'c' ;", 2, 0, []int{0, 1}, "0"}, {"s = 'a' 'b' | 'a' 'c' ;", 2, 0, []int{0, 2, 1}, "1"}, {"s = 'a' 'b' | 'a' 'c' ;", 2, 0, []int{0}, ""}, {"s = 'a' 'b' | 'a' 'c' ;", 4, 0, []int{0, 1, 0}, ""},
		{"s = 'a' 'b' | 'a' 'c' ;", 4, 0, []int{0, 1}, "0"}, {"s = 'a' 'b' | 'a' 'c' ;", 1, 0, []int{0}, "0,1"},
		// The end.
		{"s = 'a' s | 'a' ;", 2, 0, nil, ""}, {"s = 'a' s 'b' | ;", 1, 0, nil, "1"}, {"s = 'a' s 'b' | ;", 3, 0, []int{}, "1"}, {"s = | t ; t = ;", 2, 0, nil, "0,1"}, {"s = | t ; t = ;", 2, 1, nil, "2"}, {"s = 'a' ;", 1, 0, nil, ""},
		// The end isn't told by a number.
		{"s = 'a' s | 'a' ;", 2, 0, []int{0, api.End}, ""}, {"s = 'a' s 'b' | ;", 1, 0, []int{api.End}, ""}, {"s = 'a' s 'b' | ;", 2, 0, []int{1, api.End}, ""},
		// No such row.
		{"s = 'a' s 'b' | ;", 2, 0, []int{1, 0}, ""}, {"s = 'a' s 'b' | ;", 2, 0, []int{0, 2}, ""}, {"s = 'a' s 'b' | ;", 1, 0, []int{2}, ""}, {"s = 'a' s 'b' | ;", 1, 0, []int{math.MaxInt, 0}, ""}, {"s = 'a' s 'b' | ;", 2, 0, []int{math.MinInt, 0}, ""},
		// Variables have rows of their own.
		{"s = 't' t | 'a' ; t = u u | 'b' ; u = 'b' | ;", 1, 0, []int{1}, ""}, {"s = 't' t | 'a' ; t = u u | 'b' ; u = 'b' | ;", 1, 1, []int{1}, "2,3"}, {"s = 't' t | 'a' ; t = u u | 'b' ; u = 'b' | ;", 1, 2, []int{1}, "4,5"},
		// No such variable.
		{"s = 'a' s 'b' | ;", 1, 1, []int{0}, ""}, {"s = 'a' s 'b' | ;", 1, -1, []int{0}, ""}, {"s = 'a' s 'b' | ;", 1, -1, nil, ""}, {"s = 'a' s 'b' | ;", 1, math.MaxInt, nil, ""}, {"s = 'a' s 'b' | ;", 1, math.MinInt, []int{1}, ""}, {"s = 'a' s 'b' | ;", 1, ^1, []int{1}, ""},
	} {
		made, _ := tableOf(t, sample.Load(c.text), c.k)
		rest := slices.Clone(c.rest)
		if got := numbers(made.Find(c.v, rest)); got != c.want {
			t.Errorf("%s %d of %d: %v: %q, want %q", c.text, c.k, c.v, c.rest, got, c.want)
		}
		if !slices.Equal(rest, c.rest) {
			t.Errorf("%s %d of %d: what comes next was turned: %v", c.text, c.k, c.v, rest)
		}
	}
}

// P12.1: of a variable that there isn't there are no rows, it is clear, and nothing is found.
func TestNoSuchVariable(t *testing.T) {
	g := sample.Load("s = t t | 'b' ; t = 'b' | ;")
	for k := 1; k <= api.MaxK; k++ {
		made, _ := tableOf(t, g, k)
		for _, v := range []int{math.MinInt, -65, -2, -1, 2, 3, 64, math.MaxInt} {
			if rows, rules := made.Rows(v), made.Find(v, []int{0}); len(rows) != 0 || !made.Clear(v) || len(rules) != 0 {
				t.Errorf("%d of %d: %v, %v, %v", k, v, rows, made.Clear(v), rules)
			}
		}
	}
}

// P12.1: as many rules as there may be, all of one variable, some of which clash all with one another.
func TestManyRules(t *testing.T) {
	g := api.Grammar{Vars: []string{"s"}}
	for i := range api.MaxTerms {
		g.Terms = append(g.Terms, "t"+string([]byte{byte('0' + i/10), byte('0' + i%10)}))
	}
	// Each terminal begins four words, the last one first.
	for i := api.MaxTerms - 1; i >= 0; i-- {
		for j := range 4 {
			g.Rules = append(g.Rules, api.Rule{Right: []int{^i, ^j}})
		}
	}
	if !gram.Right(g) {
		t.Fatal("the grammar isn't right")
	}
	made, _ := tableOf(t, g, 2)
	rows := made.Rows(0)
	if len(rows) != api.MaxRules || !made.Clear(0) || len(made.Clashes()) != 0 {
		t.Errorf("%d rows, %d clashes", len(rows), len(made.Clashes()))
	}
	for at, row := range rows {
		if i, j := at/4, at%4; !slices.Equal(row.Look, []int{i, j}) || !slices.Equal(row.Rules, []int{4*(api.MaxTerms-1-i) + j}) {
			t.Fatalf("row %d: %v", at, row)
		}
	}
	made, _ = tableOf(t, g, 1)
	clashes := made.Clashes()
	if len(made.Rows(0)) != api.MaxTerms || len(clashes) != 6*api.MaxTerms {
		t.Errorf("%d rows, %d clashes", len(made.Rows(0)), len(clashes))
	}
	for i, c := range clashes {
		pair := [][2]int{{0, 1}, {0, 2}, {0, 3}, {1, 2}, {1, 3}, {2, 3}}[i%6]
		if lo := i / 6 * 4; c.A != lo+pair[0] || c.B != lo+pair[1] || !slices.Equal(c.Look, []int{api.MaxTerms - 1 - i/6}) {
			t.Fatalf("clash %d: %v", i, c)
		}
	}
}

// P12.1: many lookaheads, of rules each of which is to come ahead of all before it, and of rules that mean all the same.
func TestManyRows(t *testing.T) {
	var names []string
	for i := range 60 {
		names = append(names, "'"+string([]byte{'a', byte('0' + i/10), byte('0' + i%10)})+"'")
	}
	back := slices.Clone(names)
	slices.Reverse(back)
	g := sample.Load("s = " + strings.Join(back, " x x | ") + " x x ; x = " + strings.Join(names, " | ") + " ;")
	made, _ := tableOf(t, g, 3)
	rows := made.Rows(0)
	if len(rows) != 60*60*60 || !made.Clear(0) || !slices.IsSortedFunc(rows, func(a, b table.Row) int { return strs.Compare(a.Look, b.Look) }) {
		t.Fatalf("%d rows", len(rows))
	}
	for _, row := range rows {
		if !slices.Equal(row.Rules, []int{59 - row.Look[0]}) {
			t.Fatalf("%v", row)
		}
	}
	g = sample.Load("s = x x x " + strings.Join(names, " | x x x ") + " ; x = " + strings.Join(names, " | ") + " ;")
	made, _ = tableOf(t, g, 2)
	if rows = made.Rows(0); len(rows) != 60*60 || len(rows[7].Rules) != 60 || len(rows[3599].Rules) != 60 {
		t.Fatalf("%d rows", len(rows))
	}
	clashes := made.Clashes()
	if len(clashes) != 60*59/2 || slices.ContainsFunc(clashes, func(c table.Clash) bool { return !slices.Equal(c.Look, []int{0, 0}) }) {
		t.Errorf("%d clashes", len(clashes))
	}
}

// turn turns all numbers of a list, and what room is behind it.
func turn(list []int) {
	list = list[:cap(list)]
	for i := range list {
		list[i] = 77
	}
}

// answers is all that is told of a table as text, and turns it all behind that.
func answers(g api.Grammar, made *table.Table, turned bool) string {
	all := clashesText(g, made.Clashes())
	var lists [][]int
	for v := range g.Vars {
		rows := made.Rows(v)
		all += "\n" + rowsText(g, rows) + " " + strconv.FormatBool(made.Clear(v))
		for i, row := range rows {
			found := made.Find(v, row.Look)
			all += " " + numbers(found)
			lists = append(lists, row.Look, row.Rules, found)
			rows[i] = table.Row{}
		}
	}
	for _, c := range made.Clashes() {
		lists = append(lists, c.Look)
	}
	for _, list := range lists {
		if turned {
			turn(list)
		}
	}
	return all
}

// Rule 4: what is told is new memory; what is handed in stays, and may be turned behind the call, but for the grammar.
func TestNewMemory(t *testing.T) {
	text := "s = t 'a' t | u | %nan 'b' 'c' ; t = %2 'b' t | ; u = 'b' 'a' | t ;"
	g := sample.Load(text)
	for k := 1; k <= api.MaxK; k++ {
		made, s := tableOf(t, g, k)
		other := table.Of(g, s)
		want := answers(g, made, true)
		if got := answers(g, made, true); got != want {
			t.Errorf("%d: what is told turns the table: %q, was %q", k, got, want)
		}
		again, _ := first.Of(g, k, api.MaxBudget)
		for v := range g.Vars {
			if !s.First[v].Same(again.First[v]) || !s.Follow[v].Same(again.Follow[v]) {
				t.Errorf("%d: the sets are turned", k)
			}
		}
		for v := range g.Vars {
			s.First[v].Add([]int{0})
			s.Follow[v].Add([]int{1})
			s.Follow[v].Add(nil)
		}
		s.First, s.Follow[0], s.K = nil, nil, 1
		if got := answers(g, made, false); got != want || made.K != k {
			t.Errorf("%d: %q, was %q", k, got, want)
		}
		if got := answers(g, other, false); got != want {
			t.Errorf("%d: tables hang together: %q, was %q", k, got, want)
		}
	}
	if !gram.Same(g, sample.Load(text)) {
		t.Errorf("the grammar is turned: %s", gram.Print(g))
	}
}

// Rule 4: lists of one answer share no memory.
func TestListsApart(t *testing.T) {
	g := sample.Load("s = t | u | v ; t = 'a' | 'b' ; u = 'a' | 'b' ; v = 'a' | 'b' ;")
	made, _ := tableOf(t, g, 2)
	rows, clashes := made.Rows(0), made.Clashes()
	if rowsText(g, rows) != "a:0,1,2 b:0,1,2" || clashesText(g, clashes) != "s 0,1 a; s 0,2 a; s 1,2 a" {
		t.Fatalf("%v, %v", rows, clashes)
	}
	_, _ = append(rows[0].Look, 9), append(rows[0].Rules, 9)
	rows[0].Look[0], rows[0].Rules[0], clashes[0].Look[0] = 1, 7, 1
	if rowsText(g, rows) != "b:7,1,2 b:0,1,2" || clashesText(g, clashes) != "s 0,1 b; s 0,2 a; s 1,2 a" {
		t.Errorf("%v, %v", rows, clashes)
	}
}

// Rules 6 and 8: names and weights have no part in it, and each table of the same sets is the same.
func TestSameAgain(t *testing.T) {
	r := sample.Roll(83)
	for range 300 {
		g, k := r.Useful(), 1+r.Of(api.MaxK)
		made, s := tableOf(t, g, k)
		want := answers(g, made, false)
		h := api.Grammar{Terms: slices.Clone(g.Terms)}
		for v := range g.Vars {
			h.Vars = append(h.Vars, sample.Name(v))
		}
		for _, rule := range g.Rules {
			h.Rules = append(h.Rules, api.Rule{Left: rule.Left, Right: rule.Right, Weight: math.NaN()})
		}
		again, _ := tableOf(t, h, k)
		if answers(g, table.Of(g, s), false) != want || answers(g, again, false) != want {
			t.Fatalf("%s%d: unlike tables", gram.Print(g), k)
		}
	}
}

// Rule 1: no call panics, whatever it is handed.
func TestNoPanic(t *testing.T) {
	wild := sample.Wild()
	sets := []*first.Sets{nil, {}, {K: -3}, {K: 2, First: []*strs.Set{nil, strs.Of(nil)}, Follow: []*strs.Set{nil}}}
	for _, g := range sample.Odd() {
		for k := 1; k <= api.MaxK; k++ {
			if s, ok := first.Of(g, k, 1000); ok {
				sets = append(sets[:4:4], s)
			}
			for _, s := range sets {
				made := table.Of(g, s)
				made.Clashes()
				for _, v := range wild {
					made.Rows(v)
					made.Clear(v)
					made.Find(v, wild)
					made.Find(v, nil)
				}
			}
		}
	}
	for _, made := range []*table.Table{nil, {}, {K: math.MinInt}, {K: math.MaxInt}} {
		if len(made.Rows(0)) != 0 || len(made.Find(0, []int{0})) != 0 || !made.Clear(0) || len(made.Clashes()) != 0 {
			t.Error("a table of nothing")
		}
	}
}
