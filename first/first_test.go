package first_test

import (
	"math"
	"slices"
	"strings"
	"testing"

	"accidence/api"
	"accidence/first"
	"accidence/gram"
	"accidence/sample"
	"accidence/strs"
)

// sets is the sets of a grammar, of which there are some.
func sets(t *testing.T, g api.Grammar, k int) *first.Sets {
	t.Helper()
	s, ok := first.Of(g, k, api.MaxBudget)
	if !ok || s == nil || s.K != k || len(s.First) != len(g.Vars) || len(s.Follow) != len(g.Vars) {
		t.Fatalf("%s%d: %v, %v", gram.Print(g), k, s, ok)
	}
	return s
}

// text is a set as text: its words, in order, each as its terminals, one behind the other; - is the empty one.
func text(g api.Grammar, s *strs.Set) string {
	var list []string
	for _, word := range s.All() {
		one := ""
		for _, n := range word {
			one += g.Terms[n]
		}
		if one == "" {
			one = "-"
		}
		list = append(list, one)
	}
	return strings.Join(list, " ")
}

// texts is some sets as texts.
func texts(g api.Grammar, list []*strs.Set) string {
	var all []string
	for _, s := range list {
		all = append(all, text(g, s))
	}
	return strings.Join(all, "; ")
}

// cases is grammars all of which is of use, and what they begin with, and what may follow, of k terminals.
func cases() []struct {
	text          string
	k             int
	first, follow string
} {
	return []struct {
		text          string
		k             int
		first, follow string
	}{
		// The chapter's example, and its other numbers of terminals.
		{"s = 'a' s 'b' | ;", 1, "- a", "- b"},
		{"s = 'a' s 'b' | ;", 2, "- aa ab", "- b bb"},
		{"s = 'a' s 'b' | ;", 3, "- aaa aab ab", "- b bb bbb"},
		{"s = 'a' s 'b' | ;", 4, "- aaaa aaab aabb ab", "- b bb bbb bbbb"},
		// The least of grammars.
		{"s = ;", 1, "-", "-"}, {"s = ;", 4, "-", "-"}, {"s = 'a' ;", 1, "a", "-"}, {"s = 'a' ;", 4, "a", "-"}, {"s = 'a' 'b' 'c' 'd' 'e' ;", 4, "abcd", "-"}, {"s = 'a' 'b' 'c' ;", 4, "abc", "-"},
		// Rounds that lead nowhere.
		{"s = s | 'a' ;", 2, "a", "-"}, {"s = s s | 'a' ;", 2, "a aa", "- a aa"}, {"s = s s | ;", 3, "-", "-"}, {"s = s s s | 'a' 'b' | ;", 3, "- ab aba", "- ab aba"},
		{"s = t ; t = u | 'a' ; u = s | t ;", 1, "a; a; a", "-; -; -"},
		// Left and right.
		{"s = s 'a' | 'b' ;", 3, "b ba baa", "- a aa aaa"}, {"s = 'a' s | 'b' ;", 3, "aaa aab ab b", "-"}, {"s = t s 'a' | 'b' ; t = ;", 2, "b ba; -", "- a aa; ba"},
		// Of a word shorter than may be one sees what is behind it; of one that may go on both.
		{"s = t u 'd' ; t = 'a' | 'a' 'b' ; u = 'c' | ;", 2, "ab ac ad; a ab; - c", "-; cd d; d"},
		{"s = t u 'd' ; t = 'a' | 'a' 'b' ; u = 'c' | ;", 3, "abc abd acd ad; a ab; - c", "-; cd d; d"},
		{"s = t t t ; t = 'a' | ;", 2, "- a aa; - a", "-; - a aa"},
		{"s = t t t ; t = 'a' | ;", 4, "- a aa aaa; - a", "-; - a aa"},
		// What is behind a symbol that vanishes, and one that needn't.
		{"s = 'a' t u v 'e' ; t = 'b' | ; u = 'c' | ; v = 'd' | ;", 1, "a; - b; - c; - d", "-; c d e; d e; e"},
		{"s = 'a' t u v 'e' ; t = 'b' | ; u = 'c' | ; v = 'd' | ;", 2, "ab ac ad ae; - b; - c; - d", "-; cd ce de e; de e; e"},
		{"s = 'a' t u v 'e' | 'x' ; t = 'b' | ; u = 'c' ; v = 'd' | ;", 2, "ab ac x; - b; c; - d", "-; cd ce; de e; e"},
		// What follows goes on from the rule's variable, at its end, and behind what may vanish.
		{"s = t 'x' | u 'y' ; t = 'a' u ; u = 'b' v ; v = 'c' | ;", 1, "a b; a; b; - c", "-; x; x y; x y"},
		{"s = t 'x' ; t = u v w ; u = 'a' ; v = | 'b' ; w = | 'c' ;", 1, "a; a; a; - b; - c", "-; x; b c x; c x; x"},
		{"s = t 'x' ; t = u v w ; u = 'a' ; v = | 'b' ; w = | 'c' ;", 3, "abc abx acx ax; a ab abc ac; a; - b; - c", "-; x; bcx bx cx x; cx x; x"},
		// The start, in rules, too.
		{"s = t s 'b' | ; t = 'a' | s 'c' ;", 1, "- a c; a c", "- b c; a b c"},
		// What is told ahead of where it is asked for, and behind.
		{"s = t 'a' ; t = u 'b' ; u = v 'c' ; v = 'd' ;", 4, "dcba; dcb; dc; d", "-; a; ba; cba"},
		{"s = 'a' t ; t = 'b' u ; u = 'c' v ; v = 'd' ;", 3, "abc; bcd; cd; d", "-; -; -; -"},
		// By more than one way the same.
		{"s = t u | u t | 'a' ; t = 'a' | ; u = 'a' | ;", 2, "- a aa; - a; - a", "-; - a; - a"},
		// A dangling else.
		{"s = 'i' s e | 'x' ; e = 'e' s | ;", 2, "ii ix x; - ei ex", "- ei ex; - ei ex"},
		// Sums.
		{"s = t x ; x = '+' t x | ; t = 'n' | '(' s ')' ;", 2, "(( (n n n+; - +( +n; (( (n n", "- ) )) )+; - ) )) )+; - ) )) )+ +( +n"},
	}
}

// P10.1: First and Follow of grammars, and how many words they have.
func TestOf(t *testing.T) {
	for _, c := range cases() {
		g := sample.Load(c.text)
		s := sets(t, g, c.k)
		if got := texts(g, s.First); got != c.first {
			t.Errorf("%s %d: First is %q, want %q", c.text, c.k, got, c.first)
		}
		if got := texts(g, s.Follow); got != c.follow {
			t.Errorf("%s %d: Follow is %q, want %q", c.text, c.k, got, c.follow)
		}
		if got, want := s.Words(), len(strings.FieldsFunc(c.first+" "+c.follow, func(r rune) bool { return r == ' ' || r == ';' })); got != want {
			t.Errorf("%s %d: %d words, want %d", c.text, c.k, got, want)
		}
	}
}

// P10.1: k is from 1 to 4.
func TestNoSuchK(t *testing.T) {
	g := sample.Load("s = 'a' s 'b' | ;")
	for _, k := range []int{math.MinInt, -1, 0, 5, 6, 64, math.MaxInt} {
		for _, budget := range []int{-1, 0, 5, api.MaxBudget, math.MaxInt} {
			if s, ok := first.Of(g, k, budget); ok || s != nil {
				t.Errorf("%d: %v, %v", k, s, ok)
			}
		}
	}
}

// P10.1: there are just as many words as the budget has, or fewer.
func TestBudget(t *testing.T) {
	for _, c := range cases() {
		g := sample.Load(c.text)
		n := sets(t, g, c.k).Words()
		for _, budget := range []int{math.MinInt, -1, 0, 1, n / 2, n - 1} {
			if s, ok := first.Of(g, c.k, budget); ok || s != nil {
				if budget < n {
					t.Errorf("%s %d: %d words by a budget of %d", c.text, c.k, n, budget)
				}
			}
		}
		for _, budget := range []int{n, n + 1, 2 * n, api.MaxBudget, api.MaxBudget + 1, math.MaxInt} {
			s, ok := first.Of(g, c.k, budget)
			if !ok || s.Words() != n || texts(g, s.First) != c.first || texts(g, s.Follow) != c.follow {
				t.Errorf("%s %d: %v by a budget of %d, for %d words", c.text, c.k, ok, budget, n)
			}
		}
	}
}

// letters is alternatives of n terminals.
func letters(n int) string {
	var list []string
	for i := range n {
		list = append(list, "'"+string([]byte{byte('a' + i/26), byte('a' + i%26)})+"'")
	}
	return strings.Join(list, " | ")
}

// P10.1: a budget above a million counts as that.
func TestGreatestBudget(t *testing.T) {
	// As many as s and u have, t's, nothing that follows, and up to three of t's.
	for _, c := range []struct {
		text string
		want int
	}{
		{"s = t t t ; t = " + letters(64) + " ;", 64*64*64 + 64 + 1 + (1 + 64 + 64*64)},
		{"s = t t t t | u ; t = " + letters(62) + " ; u = t t t t | 'x' ;", (62*62*62+1)*2 + 62 + 1 + 1 + (1 + 62 + 62*62 + 62*62*62)},
	} {
		s, ok := first.Of(sample.Load(c.text), 3, c.want)
		if !ok || s.Words() != c.want {
			t.Fatalf("%s: %v, %v, want %d", c.text, ok, s, c.want)
		}
		if _, ok := first.Of(sample.Load(c.text), 3, c.want-1); ok {
			t.Errorf("%s: by a budget of %d", c.text, c.want-1)
		}
	}
	// What is seen of it is little enough, though the symbols at the end become 64^4 words.
	if s, ok := first.Of(sample.Load("s = u 'aa' t t t t ; u = 'aa' 'ab' 'ac' 'ad' ; t = "+letters(64)+" ;"), 4, 528516); !ok || s.Words() != 528516 {
		t.Errorf("%v", ok)
	}
	// Four times 64^3 words are more than a million.
	g := sample.Load("s = t t t t | u ; u = v ; v = t t t t t ; t = " + letters(64) + " ;")
	for _, budget := range []int{api.MaxBudget, 64*64*64*4 + 64*64 + 64*2 + 4, 2 * api.MaxBudget, math.MaxInt} {
		if s, ok := first.Of(g, 3, budget); ok || s != nil {
			t.Errorf("%d words by a budget of %d", s.Words(), budget)
		}
	}
}

// P10.1: where there are by far too many words, that is told ahead of them.
func TestFarTooMany(t *testing.T) {
	for _, text := range []string{
		"s = t t t t ; t = " + letters(64) + " ;",
		"s = s t | t ; t = " + letters(64) + " ;",
		"s = u t t t t ; u = 'aa' ; t = " + letters(64) + " ;",
		"s = u t t t t ; u = 'aa' 'ab' 'ac' 'ad' ; t = " + letters(64) + " ;",
		"s = t u ; u = s s s s s s s s s s s s s s s s s s s s s s s s | ; t = " + letters(64) + " ;",
	} {
		for _, budget := range []int{0, 1000, api.MaxBudget} {
			if s, ok := first.Of(sample.Load(text), 4, budget); ok || s != nil {
				t.Errorf("%s: %d words", text, s.Words())
			}
		}
	}
}

// P10.1: as many variables as there may be, one behind the other, whichever is told first.
func TestLongChains(t *testing.T) {
	for _, back := range []bool{false, true} {
		g := api.Grammar{Terms: []string{"a", "b"}}
		for v := range api.MaxVars {
			g.Vars = append(g.Vars, sample.Name(v))
		}
		// Each is the next one, with an a ahead of it or without, and the last one is b.
		at := func(i int) int { return i }
		if back {
			at = func(i int) int { return (api.MaxVars - i) % api.MaxVars }
		}
		for i := range api.MaxVars - 1 {
			next := at(i + 1)
			g.Rules = append(g.Rules, api.Rule{Left: at(i), Right: []int{next}}, api.Rule{Left: at(i), Right: []int{^0, next}})
		}
		g.Rules = append(g.Rules, api.Rule{Left: at(api.MaxVars - 1), Right: []int{^1}})
		slices.SortStableFunc(g.Rules, func(a, b api.Rule) int { return a.Left - b.Left })
		if !gram.Right(g) {
			t.Fatal("the grammar isn't right")
		}
		s := sets(t, g, 4)
		for i := range api.MaxVars {
			want := strings.Join([]string{"aaaa", "aaab", "aab", "ab", "b"}[max(0, 4-(api.MaxVars-1-i)):], " ")
			if i < api.MaxVars-4 {
				want = "aaaa aaab aab ab b"
			}
			if got := text(g, s.First[at(i)]); got != want {
				t.Fatalf("%v %d: %q, want %q", back, i, got, want)
			}
			if got := text(g, s.Follow[at(i)]); got != "-" {
				t.Fatalf("%v %d: %q follows", back, i, got)
			}
		}
	}
}

// P10.1: what a form becomes, with what is behind it.
func TestAhead(t *testing.T) {
	g := sample.Load("s = 'a' s 'b' | t 'c' ; t = 'd' | 'd' 'd' | ;")
	for _, c := range []struct {
		k    int
		form []int
		tail [][]int
		want string
	}{
		// No symbols: the words that are behind, cut.
		{2, nil, [][]int{{}}, "-"}, {2, []int{}, [][]int{{0, 1, 2}, {0, 1}, {2}, {}}, "- ab c"}, {1, nil, [][]int{{0, 1, 2}, {1}}, "a b"},
		// No words behind: nothing, be the form as long as may be.
		{2, nil, nil, ""}, {2, []int{^0, ^1, ^2}, nil, ""}, {2, []int{0}, nil, ""}, {2, []int{1, 1}, [][]int{}, ""},
		// Terminals.
		{2, []int{^0}, [][]int{{}}, "a"}, {2, []int{^0}, [][]int{{1}, {1, 2}, {2}}, "ab ac"}, {2, []int{^0, ^1}, [][]int{{1}, {}}, "ab"}, {4, []int{^0, ^1, ^2}, [][]int{{}, {3, 3}}, "abc abcd"},
		{3, []int{^0, ^1, ^2, ^3, ^0}, [][]int{{}}, "abc"}, {1, []int{^3, 0, 1}, [][]int{{0}}, "d"},
		// Variables.
		{1, []int{0}, [][]int{{}}, "a c d"}, {2, []int{1}, [][]int{{}}, "- d dd"}, {1, []int{1}, [][]int{{}}, "- d"}, {1, []int{1}, [][]int{{0}, {1}}, "a b d"}, {2, []int{1}, [][]int{{0}, {1, 1}}, "a bb da db dd"},
		{3, []int{1, 1}, [][]int{{}}, "- d dd ddd"}, {3, []int{1, ^0, 1}, [][]int{{1}}, "ab adb add dab dad dda"}, {2, []int{^1, 0}, [][]int{{}}, "ba bc bd"}, {4, []int{^1, 0}, [][]int{{}}, "baaa baac baad bacb badc badd bc bdc bddc"},
		{2, []int{0, 0}, [][]int{{}}, "aa ac ad ca cc cd dc dd"},
		// Numbers behind that are no terminals', and words that go on.
		{2, []int{1}, [][]int{{0, 0, 0, 0, 0, 0}}, "aa da dd"},
	} {
		s := sets(t, g, c.k)
		tail := strs.Of(c.tail...)
		if got := text(g, s.Ahead(c.form, tail)); got != c.want {
			t.Errorf("%d %v %v: %q, want %q", c.k, c.form, c.tail, got, c.want)
		}
		if !tail.Same(strs.Of(c.tail...)) {
			t.Errorf("%d %v %v: the words behind were turned", c.k, c.form, c.tail)
		}
	}
	s := sets(t, g, 2)
	odd := strs.Of([]int{math.MinInt, -1, 7}, []int{math.MaxInt})
	if got, want := s.Ahead([]int{1}, odd), strs.Of([]int{math.MinInt, -1}, []int{math.MaxInt}, []int{3, math.MinInt}, []int{3, math.MaxInt}, []int{3, 3}); !got.Same(want) {
		t.Errorf("%v, want %v", got.All(), want.All())
	}
	if got := s.Ahead([]int{0}, nil); got.Len() != 0 {
		t.Errorf("%v", got.All())
	}
	if got := s.Ahead(slices.Repeat([]int{^0, 0, 1}, 20000), strs.Of(nil)); text(g, got) != "aa ac ad" {
		t.Errorf("%v", got.All())
	}
}

// P10.1: what may come where a rule is to be taken; nothing, if there is no such rule.
func TestLook(t *testing.T) {
	for _, c := range []struct {
		text string
		k    int
		want []string
	}{
		{"s = 'a' s 'b' | ;", 1, []string{"a", "- b"}}, {"s = 'a' s 'b' | ;", 2, []string{"aa ab", "- b bb"}}, {"s = 'a' s 'b' | ;", 3, []string{"aaa aab ab abb", "- b bb bbb"}},
		{"s = 'a' s | 'a' ;", 1, []string{"a", "a"}}, {"s = 'a' s | 'a' ;", 2, []string{"aa", "a"}},
		{"s = t s 'a' | 'b' ; t = ;", 2, []string{"ba", "b ba", "ba"}},
		{"s = a 'b' | b 'c' ; a = 'a' a | ; b = 'a' b | ;", 2, []string{"aa ab b", "aa ac c", "aa ab", "b", "aa ac", "c"}},
		{"s = 'i' s e | 'x' ; e = 'e' s | ;", 1, []string{"i", "x", "e", "- e"}},
		{"s = t 'x' ; t = u v w ; u = 'a' ; v = | 'b' ; w = | 'c' ;", 2, []string{"ab ac ax", "ab ac ax", "ab ac ax", "cx x", "bc bx", "x", "cx"}},
	} {
		g := sample.Load(c.text)
		s := sets(t, g, c.k)
		for rule, want := range c.want {
			if got := text(g, s.Look(rule)); got != want {
				t.Errorf("%s %d: rule %d: %q, want %q", c.text, c.k, rule, got, want)
			}
		}
		for _, rule := range []int{math.MinInt, -2, -1, len(g.Rules), len(g.Rules) + 1, 256, math.MaxInt} {
			if got := s.Look(rule); got == nil || got.Len() != 0 {
				t.Errorf("%s: rule %d: %v", c.text, rule, got)
			}
		}
	}
}

// Rule 4: what is told is new memory, what is handed in stays, and may be turned behind the call, but for the grammar.
func TestNewMemory(t *testing.T) {
	g := sample.Load("s = 'a' s 'b' | t 'c' ; t = 'd' | ;")
	was := gram.Print(g)
	s := sets(t, g, 2)
	firsts, follows, n := texts(g, s.First), texts(g, s.Follow), s.Words()
	form, tail := []int{1, ^0}, strs.Of([]int{1}, []int{2, 2})
	told := []*strs.Set{s.Ahead(form, tail), s.Ahead(nil, tail), s.Ahead(nil, s.Follow[0]), s.Ahead([]int{1}, strs.Of(nil)), s.Ahead([]int{0}, s.Follow[1]), s.Look(0), s.Look(3), s.Look(-1), s.Look(99)}
	want := texts(g, told)
	form[0], form[1] = 0, 0
	tail.Add([]int{3, 3})
	if got := texts(g, told); got != want {
		t.Errorf("%q, was %q", got, want)
	}
	for _, one := range told {
		one.Add([]int{0, 0, 0, 0, 0, 0})
	}
	if !slices.Equal(tail.All()[0], []int{1}) || tail.Len() != 3 {
		t.Errorf("what was handed in is turned: %v", tail.All())
	}
	if texts(g, s.First) != firsts || texts(g, s.Follow) != follows || s.Words() != n || gram.Print(g) != was {
		t.Error("what is told turns the sets")
	}
	other := sets(t, g, 2)
	other.First[0].Add([]int{9})
	other.Follow[1].Add([]int{9})
	if other.Words() != n+2 || s.Words() != n || texts(g, s.First) != firsts || texts(g, s.Follow) != follows {
		t.Error("sets hang together")
	}
	// No two sets are one.
	s.First[0].Add([]int{8})
	s.First[1].Add([]int{7})
	s.Follow[0].Add([]int{6})
	if s.Words() != n+3 || s.Follow[1].Len() != strings.Count(strings.Split(follows, "; ")[1], " ")+1 {
		t.Error("sets of a grammar hang together")
	}
}

// Rule 1: no call panics, whatever it is handed, and each one ends.
func TestNoPanic(t *testing.T) {
	wild := sample.Wild()
	for _, g := range sample.Odd() {
		for k := 1; k <= api.MaxK; k++ {
			s, ok := first.Of(g, k, 1000)
			if !ok {
				continue
			}
			s.Words()
			for _, a := range wild {
				s.Look(a)
				for _, b := range wild {
					s.Ahead([]int{a, b}, strs.Of([]int{a}, nil))
				}
			}
		}
	}
	var none first.Sets
	if none.Words() != 0 || none.Look(0).Len() != 0 || none.Ahead([]int{0}, strs.Of()).Len() != 0 {
		t.Error("sets of nothing")
	}
}
