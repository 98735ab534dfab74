package chart_test

import (
	"math"
	"slices"
	"strings"
	"testing"

	"accidence/api"
	"accidence/chart"
	"accidence/gram"
	"accidence/sample"
	"accidence/useful"
)

// nest is the chapter's example: as many b's behind as there are a's ahead.
const nest = "s = 'a' s 'b' | ;"

// word is the terminals of a text.
func word(t *testing.T, g api.Grammar, s string) []int {
	t.Helper()
	w, at := gram.Word(g, s)
	if at >= 0 {
		t.Fatalf("%s: no word at %d", s, at)
	}
	return w
}

// text is terminals as a text.
func text(g api.Grammar, w []int) string {
	var list []string
	for _, t := range w {
		list = append(list, g.Terms[t])
	}
	return strings.Join(list, " ")
}

// of is a chart of some terminals, all of which go on.
func of(t *testing.T, g api.Grammar, w []int) *chart.Chart {
	t.Helper()
	c := chart.New(g)
	for at, s := range w {
		if !c.Push(s) {
			t.Fatalf("%s%v: at %d it doesn't go on", gram.Print(g), w, at)
		}
	}
	return c
}

// P17.1: which terminals go on, whether they are a word, with which ones they go on, and which ones finish a word first.
func TestChart(t *testing.T) {
	const (
		sum      = "e = e '+' f | f ; f = '(' e ')' | 'n' ;"
		calls    = "e = t f ; f = '+' t f | ; t = '(' e ')' | 'n' g ; g = '(' a ')' | ; a = e b | ; b = ',' e b | ;"
		dangling = "s = 'if' s | 'if' s 'else' s | 'x' ;"
		chapter  = "s = 'a' s | t | u ; t = ; u = u 'b' ; w = 'a' ;"
	)
	for _, c := range []struct {
		text, word, next string
		whole            bool
		finish           string
	}{
		// The chapter's example.
		{nest, "", "a", true, ""}, {nest, "a a", "a b", false, "b b"}, {nest, "a a b", "b", false, "b"}, {nest, "a b", "", true, ""},
		{sum, "", "( n", false, "n"}, {sum, "n", "+", true, ""}, {sum, "( ( n +", "( n", false, "n ) )"}, {sum, "( n )", "+", true, ""}, {sum, "( n + n", ") +", false, ")"},
		{calls, "n (", "( ) n", false, ")"}, {calls, "n ( n", "( ) + ,", false, ")"}, {calls, "n ( n , n ( n ,", "( n", false, "n ) )"}, {calls, "n ( )", "+", true, ""}, {calls, "( n ( ) +", "( n", false, "n )"},
		{dangling, "", "if x", false, "x"}, {dangling, "if if x", "else", true, ""}, {dangling, "if if x else x", "else", true, ""}, {dangling, "if x else", "if x", false, "x"}, {dangling, "if x else x", "", true, ""}, {dangling, "if if", "if x", false, "x"},
		// Rules that become no word, or that nothing leads to, don't let it go on.
		{chapter, "", "a", true, ""}, {chapter, "a a a", "a", true, ""}, {"s = 'a' t | 'a' 'b' ; t = 'c' t ;", "a", "b", false, "b"}, {"s = 'a' | t 'b' ; t = s t ;", "a", "", true, ""},
		// Those that become one only if others do.
		{"s = 'a' t ; t = u | 'b' ; u = 'c' v ; v = v 'd' ;", "a", "b", false, "b"},
		// Variables that vanish, ahead of terminals, behind them, and between.
		{"s = t u t 'x' ; t = 'a' | ; u = t t | 'b' ;", "", "a b x", false, "x"}, {"s = t u t 'x' ; t = 'a' | ; u = t t | 'b' ;", "a a a", "a x", false, "x"}, {"s = t u t 'x' ; t = 'a' | ; u = t t | 'b' ;", "a b", "a x", false, "x"}, {"s = t u t 'x' ; t = 'a' | ; u = t t | 'b' ;", "a a a a", "x", false, "x"},
		{"s = 'a' t u v ; t = 'b' | ; u = 'c' | ; v = 'd' | t ;", "a", "b c d", true, ""}, {"s = 'a' t u v ; t = 'b' | ; u = 'c' | ; v = 'd' | t ;", "a c", "b d", true, ""}, {"s = 'a' t u v ; t = 'b' | ; u = 'c' | ; v = 'd' | t ;", "a b b", "", true, ""},
		// Variables that begin with themselves, or are themselves.
		{"s = s | 'a' ;", "", "a", false, "a"}, {"s = s | 'a' ;", "a", "", true, ""}, {"s = t ; t = s | t | s 'b' | 'a' ;", "a b", "b", true, ""}, {"s = t s 'a' | 'b' ; t = ;", "b a", "a", true, ""}, {"s = s s | 'a' | ;", "a a", "a", true, ""}, {"s = s s | 'a' | ;", "", "a", true, ""},
		{"s = s s | t ; t = s t | 'a' 'b' ;", "a b a", "b", false, "b"},
		// The least terminal isn't the first one of the shortest, or it is by a rule that stands behind.
		{"s = 'a' 'a' 'a' | 'b' 'a' ;", "", "a b", false, "b a"}, {"s = 'b' 'a' | 'a' 'c' | 'a' 'b' 'c' ;", "", "a b", false, "a c"}, {"s = 'a' 'b' | 'a' t ; t = 'a' | 'b' 'a' ;", "a", "a b", false, "a"}, {"s = 'x' t 'b' | 'x' u 'a' ; t = 'c' ; u = 'c' ;", "x", "c", false, "c a"},
		// What is shortest of a variable isn't, if something else has begun.
		{"s = 'x' t | 'y' ; t = 'a' 'a' 'a' | 'b' 'b' | 'a' 'b' 'a' ;", "x", "a b", false, "b b"}, {"s = 'x' t | 'y' ; t = 'a' 'a' 'a' | 'b' 'b' | 'a' 'b' 'a' ;", "x a", "a b", false, "a a"},
		// Only the empty word.
		{"s = ;", "", "", true, ""}, {"s = t t ; t = u | ; u = t ;", "", "", true, ""},
	} {
		g := sample.Load(c.text)
		k := of(t, g, word(t, g, c.word))
		if k.Len() != len(word(t, g, c.word)) || text(g, k.Word()) != c.word || text(g, k.Next()) != c.next || k.Accepts() != c.whole {
			t.Errorf("%s %s: %v, next %s, %v", c.text, c.word, k.Word(), text(g, k.Next()), k.Accepts())
		}
		if got, ok := k.Finish(); !ok || text(g, got) != c.finish || k.Short() != len(got) {
			t.Errorf("%s %s: %d, %s, %v, want %s", c.text, c.word, k.Short(), text(g, got), ok, c.finish)
		}
		for s := -2; s < len(g.Terms)+2; s++ {
			want := slices.Contains(word(t, g, c.next), s)
			if k.Push(s) != want || want && !k.Pop() || text(g, k.Word()) != c.word || text(g, k.Next()) != c.next {
				t.Errorf("%s %s: %d: %v, next %s", c.text, c.word, s, k.Word(), text(g, k.Next()))
			}
		}
	}
}

// P17.1: what doesn't go on isn't put behind, whichever number it is, and of none none is taken off.
func TestRefused(t *testing.T) {
	c := chart.New(sample.Load(nest))
	if c.Pop() || c.Len() != 0 || len(c.Word()) != 0 {
		t.Error("one of none is taken off")
	}
	for _, w := range [][]int{nil, {0}, {0, 1}, {0, 0, 1}} {
		c := of(t, sample.Load(nest), w)
		for _, s := range append(sample.Wild(), ^0, ^1, 2, api.End) {
			if slices.Contains(c.Next(), s) {
				continue
			}
			if c.Push(s) || c.Len() != len(w) || !slices.Equal(c.Word(), w) {
				t.Errorf("%v: %d: %v", w, s, c.Word())
			}
		}
		for range w {
			if !c.Pop() {
				t.Errorf("%v: %v", w, c.Word())
			}
		}
		if c.Pop() || c.Len() != 0 || !c.Accepts() || !slices.Equal(c.Next(), []int{0}) {
			t.Errorf("%v: %v", w, c.Word())
		}
	}
}

// P17.1: of a grammar whose start becomes no word no terminals go on, but there is a chart of none.
func TestNoWord(t *testing.T) {
	for _, text := range []string{"s = s ;", "s = 'a' s | t s ; t = 'b' ;", "s = t t ; t = t 'a' ; u = 'b' ;", sample.Doubled(64, 24, "", "v0")} {
		g := sample.Load(text)
		c := chart.New(g)
		if c == nil || c.Len() != 0 || c.Accepts() || len(c.Next()) != 0 || c.Pop() || c.Push(0) || c.Push(api.End) || c.Len() != 0 {
			t.Fatalf("%s: %v", text, c)
		}
		if got, ok := c.Finish(); ok || len(got) != 0 || c.Short() != useful.Far {
			t.Errorf("%s: %v, %v, %d", text, got, ok, c.Short())
		}
		if chart.Prefix(g, []int{0, 0}) != 0 || chart.Prefix(g, nil) != 0 || chart.Accepts(g, nil) || chart.Accepts(g, []int{0}) {
			t.Errorf("%s: some go on", text)
		}
	}
}

// P17.1: how many of some terminals go on, and whether they are a word.
func TestPrefix(t *testing.T) {
	for _, c := range []struct {
		text  string
		w     []int
		want  int
		whole bool
	}{
		{nest, []int{0, 1, 1}, 2, false}, {nest, nil, 0, true}, {nest, []int{0, 0, 1, 1}, 4, true}, {nest, []int{0, 0, 1}, 3, false}, {nest, []int{1}, 0, false}, {nest, []int{0, 0, 2, 1, 1}, 2, false},
		{nest, []int{api.End}, 0, false}, {nest, []int{0, ^1, 1}, 1, false}, {nest, []int{math.MaxInt}, 0, false}, {nest, []int{0, math.MinInt}, 1, false},
		{"s = ;", []int{0}, 0, false}, {"s = ;", nil, 0, true}, {"s = s s | 'a' ;", []int{0, 0, 0, 0}, 4, true}, {"s = s s | 'a' ;", nil, 0, false},
	} {
		g := sample.Load(c.text)
		w := slices.Clone(c.w)
		if got, whole := chart.Prefix(g, w), chart.Accepts(g, w); got != c.want || whole != c.whole || !slices.Equal(w, c.w) {
			t.Errorf("%s %v: %d, %v, want %d, %v", c.text, c.w, got, whole, c.want, c.whole)
		}
	}
}

// P17.1: as many terminals as may be to a word, and one more; and so many that there are no numbers for them.
func TestFar(t *testing.T) {
	for _, c := range []struct {
		text, word string
		short      int
	}{
		// 2^11 terminals, one more, and one less.
		{sample.Doubled(12, 2, "", "'a'"), "", 2048}, {"s = 'b' v0 ; " + sample.Doubled(12, 2, "", "'a'"), "", 2049}, {"s = 'b' v0 ; " + sample.Doubled(12, 2, "", "'a'"), "b", 2048}, {"s = 'b' v0 ; " + sample.Doubled(12, 2, "", "'a'"), "b a", 2047},
		{"s = v0 'b' 'b' | 'a' v0 'c' ; " + sample.Doubled(12, 2, "", "'a'"), "a", 2049}, {"s = v0 'b' 'b' 'b' | 'a' v0 ; " + sample.Doubled(12, 2, "", "'a'"), "a", 2048},
		// 2^30 terminals, and one less; and those with one ahead.
		{sample.Doubled(31, 2, "", "'a'"), "", useful.Far}, {sample.Doubled(31, 2, "", "'a'"), "a", useful.Far - 1}, {sample.Doubled(31, 2, "", "'a'"), "a a a", useful.Far - 3},
		{sample.Doubled(30, 2, " 'b'", "'a'"), "", useful.Far - 1}, {"s = 'b' v0 ; " + sample.Doubled(30, 2, " 'b'", "'a'"), "", useful.Far}, {"s = 'b' v0 ; " + sample.Doubled(30, 2, " 'b'", "'a'"), "b", useful.Far - 1},
		{"s = 'b' t ; t = v0 'b' | 'a' t ; " + sample.Doubled(30, 2, " 'b'", "'a'"), "b a a", useful.Far - 2},
		// 24^63 of them.
		{sample.Doubled(64, 24, "", "'a'"), "", useful.Far}, {sample.Doubled(64, 24, "", "'a'"), "a a a", useful.Far}, {sample.Doubled(64, 24, "", "'a' | v0 'b' | 'c' v0"), "c c", useful.Far},
		// But for another way.
		{"s = v0 | 'a' 'a' 'a' ; " + sample.Doubled(63, 24, "", "'a'"), "", 3}, {"s = v0 | 'a' 'a' 'a' ; " + sample.Doubled(63, 24, "", "'a'"), "a", 2}, {"s = v0 | 'a' 'a' 'a' ; " + sample.Doubled(63, 24, "", "'a'"), "a a a a", useful.Far},
	} {
		g := sample.Load(c.text)
		k := of(t, g, word(t, g, c.word))
		if got := k.Short(); got != c.short {
			t.Errorf("%s %s: %d, want %d", c.text, c.word, got, c.short)
		}
		got, ok := k.Finish()
		if ok != (c.short <= api.MaxWord) || !ok && len(got) > 0 {
			t.Errorf("%s %s: %d terminals, %v", c.text, c.word, len(got), ok)
		}
		if text(g, k.Word()) != c.word {
			t.Errorf("%s: %v", c.text, k.Word())
		}
		if ok && (len(got) != c.short || !chart.Accepts(g, append(k.Word(), got...))) {
			t.Errorf("%s %s: %d terminals make no word", c.text, c.word, len(got))
		}
	}
}

// P17.1: many terminals, one within the other, one behind the other, and in as many ways as may be.
func TestLong(t *testing.T) {
	for _, c := range []struct {
		text, again, last string
		n, short          int
		whole             bool
	}{
		{nest, "a", "", 20000, 20000, false}, {nest, "a", "b", 20000, 19999, false}, {"s = 'a' s | 'b' ;", "a", "b", 20000, 0, true}, {"s = 'a' s | ;", "a", "", 20000, 0, true}, {"s = s 'a' | 'a' ;", "a", "", 20000, 0, true},
		{"s = t u ; u = 'a' t u | ; t = 'b' t | 'c' v ; v = 'd' | ;", "b c d a", "c", 5000, 0, true}, {"s = 'a' s t | 'a' ; t = 'b' | ;", "a", "b b b", 1000, 0, true}, {"s = 'a' s t 'c' | 'a' ; t = 'b' | ;", "a", "b c c c", 1000, 996, false},
		{"s = s s | 'a' ;", "a", "", 300, 0, true}, {"s = s s s | t | 'a' 'a' 'a' ; t = 'a' | ;", "a", "", 150, 0, true}, {"s = 'a' s | 'a' s 'b' s | 'c' ;", "a", "c b c b", 500, 1, false},
	} {
		g := sample.Load(c.text)
		w := append(slices.Repeat(word(t, g, c.again), c.n), word(t, g, c.last)...)
		k := of(t, g, w)
		if k.Accepts() != c.whole || k.Short() != c.short || chart.Prefix(g, w) != len(w) || chart.Accepts(g, w) != c.whole {
			t.Errorf("%s %d: %v, %d", c.text, c.n, k.Accepts(), k.Short())
		}
		rest, ok := k.Finish()
		if ok != (c.short <= api.MaxWord) || ok && !chart.Accepts(g, append(w, rest...)) {
			t.Errorf("%s %d: %d, %v", c.text, c.n, len(rest), ok)
		}
		for range w {
			k.Pop()
		}
		if k.Len() != 0 || !slices.Equal(k.Next(), chart.New(g).Next()) {
			t.Errorf("%s: %v", c.text, k.Next())
		}
	}
}

// P17.1: what has begun at more than one place, however far these stand from each other, goes on from each of them.
func TestFarApart(t *testing.T) {
	for _, n := range []int{1, 2, 5, 6, 7, 8} {
		// Between both places stand 2^(n-1) terminals.
		g := sample.Load("s = p 'c' | v0 p 'd' ; p = m q ; m = 'a' m | 'a' ; q = 'b' | 'b' 'e' ; " + sample.Doubled(n, 2, "", "'a'"))
		far := 1 << (n - 1)
		for _, c := range []struct {
			all  int
			next string
		}{{far - 1, "c e"}, {far, "c e"}, {far + 1, "c d e"}, {far + 2, "c d e"}, {2*far + 70, "c d e"}} {
			w := append(make([]int, c.all), 1)
			if c.all > 0 && text(g, of(t, g, w).Next()) != c.next {
				t.Errorf("%d of %d: %s", c.all, far, text(g, of(t, g, w).Next()))
			}
		}
	}
}

// Rule 4: what is told is new memory, and what is handed in may be turned behind the call.
func TestNewMemory(t *testing.T) {
	g := sample.Load("s = 'a' s 'b' | 'c' | t ; t = t 'd' | 'a' ;")
	was := gram.Print(g)
	c := of(t, g, []int{0, 0})
	told := func() [][]int {
		rest, _ := c.Finish()
		return [][]int{c.Word(), c.Next(), rest, {c.Short(), c.Len()}}
	}
	want := told()
	for _, list := range told() {
		for i := range list[:cap(list)] {
			list[:cap(list)][i] = 77
		}
	}
	if !slices.EqualFunc(told(), want, slices.Equal) || gram.Print(g) != was {
		t.Errorf("%v, want %v", told(), want)
	}
	// What is told stays, whatever is done then.
	mine := told()
	c.Pop()
	c.Push(2)
	c.Push(1)
	if !slices.EqualFunc(mine, want, slices.Equal) {
		t.Errorf("%v, want %v", mine, want)
	}
	either := sample.Load("s = 'a' s 'b' | 'a' s 'c' | 'd' ;")
	for n := 1; n < 10; n++ {
		for last := range n {
			c := of(t, either, slices.Concat(make([]int, n), []int{3}, slices.Repeat([]int{1}, last)))
			rest, _ := c.Finish()
			if c.Push(2); len(rest) != n-last || rest[0] != 1 {
				t.Errorf("%v: %v", c.Word(), rest)
			}
		}
	}
	// Two charts of one grammar have no part in one another.
	d := chart.New(g)
	if d.Len() != 0 || d.Accepts() || c.Len() != 3 || !c.Accepts() {
		t.Errorf("%v, %v", c.Word(), d.Word())
	}
	w := []int{0, 2, 1}
	if chart.Prefix(g, w) != 3 || !chart.Accepts(g, w) || !slices.Equal(w, []int{0, 2, 1}) {
		t.Errorf("%v", w)
	}
}

// Rule 1: no call panics, whatever it is handed.
func TestNoPanic(t *testing.T) {
	for _, g := range sample.Odd() {
		chart.Prefix(g, sample.Wild())
		chart.Accepts(g, nil)
		c := chart.New(g)
		for _, s := range append(sample.Wild(), c.Next()...) {
			c.Push(s)
			c.Next()
			c.Accepts()
			c.Short()
			c.Finish()
		}
		for c.Pop() {
			c.Short()
		}
	}
	for _, c := range []*chart.Chart{nil, {}} {
		rest, ok := c.Finish()
		if c.Push(0) || c.Pop() || c.Accepts() || ok || c.Len()+len(c.Word())+len(c.Next())+len(rest) > 0 || c.Short() != useful.Far {
			t.Error("a chart of no grammar goes on")
		}
	}
}
