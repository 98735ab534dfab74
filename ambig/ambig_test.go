package ambig_test

import (
	"math"
	"slices"
	"strconv"
	"strings"
	"testing"

	"accidence/ambig"
	"accidence/api"
	"accidence/gram"
	"accidence/sample"
	"accidence/strs"
)

const (
	// sums is the chapter's example.
	sums     = "s = s 'a' s | 'b' ;"
	dangling = "s = 'i' s | 'i' s 'e' s | 'x' ;"
)

// isFound tells a fault if no word is found, or another one, or what is told doesn't show that it has two derivations.
func isFound(t *testing.T, g api.Grammar, most, budget int, want []int) {
	t.Helper()
	p, answer := ambig.Find(g, most, budget)
	if answer != ambig.Found || !slices.Equal(p.Word, want) {
		t.Fatalf("%s%d, %d: %v, %d, want %v", gram.Print(g), most, budget, p, answer, want)
	}
	if e := ambig.Check(g, p); e != api.OK {
		t.Fatalf("%s%v: %d", gram.Print(g), p, e)
	}
}

// isAnswer tells a fault if there is another answer, or something with it.
func isAnswer(t *testing.T, g api.Grammar, most, budget, want int) {
	t.Helper()
	p, answer := ambig.Find(g, most, budget)
	if answer != want || len(p.Word)+len(p.A)+len(p.B) > 0 {
		t.Fatalf("%s%d, %d: %v, %d, want %d", gram.Print(g), most, budget, p, answer, want)
	}
}

// word is the terminals of a text.
func word(t *testing.T, g api.Grammar, s string) []int {
	t.Helper()
	w, at := gram.Word(g, s)
	if at >= 0 {
		t.Fatalf("%s: %d", s, at)
	}
	return w
}

// terms is the text of a variable that becomes each of as many terminals as there may be, with something behind.
func terms(name, behind string) string {
	var b strings.Builder
	for n := range api.MaxTerms {
		b.WriteString(" | '" + strconv.Itoa(n) + "'" + behind)
	}
	return name + " =" + b.String()[2:] + " ;"
}

// P19.1: the answers have the numbers of the chapter.
func TestNumbers(t *testing.T) {
	if ambig.None != 0 || ambig.Found != 1 || ambig.Spent != 2 {
		t.Errorf("%d, %d, %d", ambig.None, ambig.Found, ambig.Spent)
	}
}

// P19.1: the first one of the shortest words is found, if there are so many terminals.
func TestFind(t *testing.T) {
	for _, c := range []struct {
		text, word string
	}{
		{sums, "b a b a b"}, {dangling, "i i x e x"},
		// The empty word, in two ways, or endlessly many.
		{"s = t | u | 'a' ; t = ; u = ;", ""}, {"s = s s | ;", ""}, {"s = s | ;", ""},
		// The first one of those of one length, which isn't that of the first terminals, nor the one that is come to first by the rules.
		{"s = 'c' | t | 'a' 'a' | u ; t = 'c' | 'b' ; u = 'b' | 'a' 'a' ;", "b"}, {"s = 'b' 'a' | t | 'a' 'b' ; t = 'b' 'a' | 'a' 'b' | 'a' 'a' ;", "a b"}, {"s = 'b' | t | 'a' 'a' ; t = 'b' | 'a' 'a' ;", "b"},
		// Terminals stand in the order of their numbers.
		{"s = 'x' t | 'x' u | 'A' t | 'A' u ; t = '+' | '0' ; u = '+' | '0' ;", "A +"},
		// By one rule, by rules of two variables, and by one with itself.
		{"s = t t ; t = 'a' | 'a' 'a' ;", "a a a"}, {"s = t | u ; t = 'a' t 'b' | 'c' ; u = 'a' u | 'a' 'a' 'c' 'b' 'b' ;", "a a c b b"}, {"s = s | 'a' 'b' ;", "a b"},
		// What has two trees may be of no use.
		{"s = 'a' t | 'b' 'b' | u ; t = t t ; u = 'b' v ; v = 'b' ; w = 'a' | x ; x = 'a' ;", "b b"},
		// As long as may be.
		{"s = 'a' 'a' 'a' 'a' 'a' 'a' 'a' 'a' 'a' t | 'a' 'a' 'a' 'a' 'a' 'a' 'a' 'a' 'a' u ; t = 'a' | 'b' ; u = 'b' ;", "a a a a a a a a a b"},
		{"s = t | u ; t = 'a' t | 'a' ; u = 'a' u 'a' | 'a' 'a' 'a' 'a' ;", "a a a a"},
		// Words that are shorter have one tree each.
		{"s = 'a' s | 'b' s | | 'b' 'a' 'b' ;", "b a b"}, {"s = 'a' s | 'b' s | | t ; t = 'b' t | 'b' 'b' 'b' 'b' ;", "b b b b"},
	} {
		g := sample.Load(c.text)
		w := word(t, g, c.word)
		for _, most := range []int{len(w), len(w) + 1, api.MaxLen, api.MaxLen + 1, math.MaxInt} {
			isFound(t, g, max(most, len(w)), api.MaxBudget, w)
		}
		isFound(t, g, len(w), math.MaxInt, w)
		for _, most := range []int{len(w) - 1, len(w) / 2, 0, -1, math.MinInt} {
			if most < len(w) {
				isAnswer(t, g, most, api.MaxBudget, ambig.None)
			}
		}
		if print := gram.Print(g); print != gram.Print(sample.Load(c.text)) {
			t.Errorf("%s: turned: %s", c.text, print)
		}
	}
}

// P19.1: grammars of which no word of so many terminals has two trees.
func TestNone(t *testing.T) {
	for _, text := range []string{
		"s = ;", "s = 'a' ;", "s = 'a' s 'b' | ;", "s = 'a' s | ;", "s = s 'a' | ;", "e = t x ; x = '+' t x | ; t = 'n' | '(' e ')' ;",
		// The start becomes no word, though others have two trees.
		"s = s ;", "s = 'a' s | s s ; t = 'a' | u ; u = 'a' ;",
		// The shortest word is too long, or the shortest one of two trees.
		"s = t t | u ; t = 'a' 'a' 'a' 'a' 'a' 'a' ; u = t t ;", "s = 'a' s | t ; t = 'b' 'b' 'b' 'b' 'b' 'b' 'b' 'b' 'b' 'b' u ; u = | v ; v = 'c' ;", "s = v0 | w ; w = v0 ; " + sample.Doubled(40, 2, "", "'a'"),
		"s = 'a' s | t | ; t = 'a' t | 'b' 'b' 'b' 'b' 'b' 'b' 'b' 'b' 'b' 'b' 'b' ;",
	} {
		g := sample.Load(text)
		for _, most := range []int{math.MinInt, -1, 0, 1, 4, api.MaxLen, api.MaxLen + 1, math.MaxInt} {
			isAnswer(t, g, most, api.MaxBudget, ambig.None)
			isAnswer(t, g, most, math.MaxInt, ambig.None)
		}
	}
}

// P19.1: a budget that isn't enough, and where there is nothing to be looked at.
func TestSpent(t *testing.T) {
	g := sample.Load(sums)
	for _, budget := range []int{math.MinInt, -1, 0} {
		isAnswer(t, g, 5, budget, ambig.Spent)
		isAnswer(t, g, math.MaxInt, budget, ambig.Spent)
		// There are no words of fewer than no terminals.
		isAnswer(t, g, -1, budget, ambig.None)
		isAnswer(t, g, math.MinInt, budget, ambig.None)
	}
	// Far too many words.
	g = sample.Load("s = | x s ;" + terms("x", ""))
	isAnswer(t, g, api.MaxLen, api.MaxBudget, ambig.Spent)
	isAnswer(t, g, api.MaxLen, math.MaxInt, ambig.Spent)
	isAnswer(t, g, 1, api.MaxBudget, ambig.None)
	// Looking at one word, and at terminals with which no word goes on that is short enough, costs something, too.
	isAnswer(t, sample.Load("s = ;"), 0, 0, ambig.Spent)
	g = sample.Load("s = | x ;" + terms("x", " y") + " y = " + strings.Repeat(" '1'", api.MaxLen) + " ;")
	isAnswer(t, g, api.MaxLen, 300, ambig.Spent)
	isAnswer(t, g, api.MaxLen, api.MaxBudget, ambig.None)
	// No more is gone through of words that are too long.
	g = sample.Load("s = x x x x x y ;" + terms("x", "") + " y = '1' '1' '1' '1' '1' '1' ;")
	isAnswer(t, g, api.MaxLen, api.MaxBudget, ambig.None)
	// Two derivations that are too long to be told: neither are they told, nor that there are none.
	g = sample.Load(sample.Doubled(64, 24, "", " | v63"))
	for _, most := range []int{0, 1, api.MaxLen} {
		isAnswer(t, g, most, api.MaxBudget, ambig.Spent)
	}
}

// P19.1: derivations of more steps than may be gone through at once are found all the same, but shorter ones if there are some.
func TestManySteps(t *testing.T) {
	g := sample.Load("s = v0 'b' | v0 v0 'b' ; " + sample.Doubled(12, 2, "", ""))
	p, answer := ambig.Find(g, 4, api.MaxBudget)
	if answer != ambig.Found || !slices.Equal(p.Word, []int{0}) || max(len(p.A), len(p.B)) != 8191 || min(len(p.A), len(p.B)) != 4096 || slices.Equal(p.A, p.B) {
		t.Errorf("%v, %d, %d steps, %d steps", p.Word, answer, len(p.A), len(p.B))
	}
	if e := ambig.Check(g, p); e != api.ErrMany {
		t.Errorf("%d", e)
	}
	isFound(t, sample.Load("s = v0 'b' | t | v0 v0 'b' | u ; t = 'b' ; u = 'b' ; "+sample.Doubled(12, 2, "", "")), 4, api.MaxBudget, []int{0})
	// As many as the smallest grammars of which it is promised may have.
	g = sample.Load("s = " + strings.Repeat(" v0", 8) + " ; " + sample.Doubled(7, 8, "", " | 'a'"))
	if p, answer := ambig.Find(g, 4, api.MaxBudget); answer != ambig.Found || !slices.Equal(p.Word, []int{0}) || len(p.A) != (1<<24-1)/7 || slices.Equal(p.A, p.B) {
		t.Errorf("%v, %d, %d steps, %d steps", p.Word, answer, len(p.A), len(p.B))
	}
}

// P19.1: what shows what it says, and what doesn't, by whichever of its parts.
func TestCheck(t *testing.T) {
	five := []int{1, 0, 1, 0, 1}
	one, two := []int{0, 1, 0, 1, 1}, []int{0, 0, 1, 1, 1}
	long := func(n int) []int { return append(slices.Repeat([]int{0}, n-1), 1) }
	for i, c := range []struct {
		text string
		p    ambig.Proof
		want api.Errno
	}{
		{sums, ambig.Proof{Word: five, A: one, B: two}, api.OK}, {sums, ambig.Proof{Word: five, A: two, B: one}, api.OK},
		{"s = s s | ;", ambig.Proof{A: []int{1}, B: []int{0, 1, 1}}, api.OK}, {"s = s s | ;", ambig.Proof{Word: []int{}, A: []int{1}, B: []int{0, 1, 1}}, api.OK},
		// More terminals than a word may have that is found.
		{"s = 'a' s | t | 'a' ; t = 'a' ;", ambig.Proof{Word: make([]int, 50), A: append(make([]int, 49), 2), B: append(make([]int, 49), 1, 3)}, api.OK},
		// Both are the same.
		{sums, ambig.Proof{Word: five, A: one, B: one}, api.ErrSame}, {sums, ambig.Proof{Word: []int{1}, A: []int{1}, B: []int{1}}, api.ErrSame},
		// A isn't a derivation of a word, or of another one.
		{sums, ambig.Proof{}, api.ErrEnd}, {sums, ambig.Proof{Word: five, A: one[:4], B: two}, api.ErrEnd}, {sums, ambig.Proof{Word: five, A: append(slices.Clone(one), 1), B: two}, api.ErrEnd}, {sums, ambig.Proof{Word: five, B: two}, api.ErrEnd},
		{sums, ambig.Proof{Word: five, A: []int{2}, B: two}, api.ErrRule}, {sums, ambig.Proof{Word: five, A: []int{0, -1}, B: two}, api.ErrRule}, {sums, ambig.Proof{Word: five, A: []int{math.MaxInt}, B: two}, api.ErrRule}, {"s = t ; t = 'a' ;", ambig.Proof{A: []int{1}}, api.ErrVar},
		{"s = 'a' s | ;", ambig.Proof{Word: make([]int, 4095), A: long(4096), B: long(4096)}, api.ErrSame}, {"s = 'a' s | ;", ambig.Proof{Word: make([]int, 4096), A: long(4097), B: long(4097)}, api.ErrMany},
		{sums, ambig.Proof{Word: five[:4], A: one, B: two}, api.ErrLook}, {sums, ambig.Proof{Word: append(slices.Clone(five), 1), A: one, B: two}, api.ErrLook}, {sums, ambig.Proof{A: one, B: two}, api.ErrLook}, {sums, ambig.Proof{Word: []int{1, 0, 0, 0, 1}, A: one, B: two}, api.ErrLook}, {sums, ambig.Proof{Word: []int{^1, ^0, ^1, ^0, ^1}, A: one, B: two}, api.ErrLook}, {sums, ambig.Proof{Word: []int{1, 0, 1, 0, api.End}, A: one, B: two}, api.ErrLook},
		// So of B, but behind all of A.
		{sums, ambig.Proof{Word: five, A: one, B: two[:4]}, api.ErrEnd}, {sums, ambig.Proof{Word: five, A: one}, api.ErrEnd}, {sums, ambig.Proof{Word: five, A: one, B: []int{0, 7}}, api.ErrRule}, {sums, ambig.Proof{Word: five, A: one, B: []int{1}}, api.ErrLook}, {sums, ambig.Proof{Word: five, A: one, B: []int{0, 1, 1}}, api.ErrLook},
		{sums, ambig.Proof{Word: five, A: []int{1}, B: []int{9}}, api.ErrLook}, {sums, ambig.Proof{Word: five, A: []int{1}, B: []int{1}}, api.ErrLook}, {sums, ambig.Proof{Word: five, A: []int{0}, B: []int{9}}, api.ErrEnd}, {sums, ambig.Proof{Word: five, A: one, B: make([]int, 5000)}, api.ErrMany},
		{"s = t | 'a' ; t = 'a' ;", ambig.Proof{Word: []int{0}, A: []int{0, 2}, B: []int{0, 1}}, api.ErrVar}, {"s = t | 'a' ; t = 'a' ;", ambig.Proof{Word: []int{0}, A: []int{0, 2}, B: []int{1}}, api.OK},
	} {
		g := sample.Load(c.text)
		p := ambig.Proof{Word: slices.Clone(c.p.Word), A: slices.Clone(c.p.A), B: slices.Clone(c.p.B)}
		if got := ambig.Check(g, p); got != c.want {
			t.Errorf("case %d: %d, want %d", i, got, c.want)
		}
		if strs.Compare(p.Word, c.p.Word) != 0 || strs.Compare(p.A, c.p.A) != 0 || strs.Compare(p.B, c.p.B) != 0 || !gram.Same(g, sample.Load(c.text)) {
			t.Errorf("case %d: what is handed in is turned", i)
		}
	}
}

// Rule 4: what is told is new memory.
func TestNewMemory(t *testing.T) {
	g := sample.Load(sums)
	p, _ := ambig.Find(g, 5, api.MaxBudget)
	was := [][]int{slices.Clone(p.Word), slices.Clone(p.A), slices.Clone(p.B)}
	lists := [][]int{p.Word, p.A, p.B}
	for i, list := range lists {
		for at := range list[:cap(list)] {
			list[:cap(list)][at] = 77
		}
		for at := i + 1; at < len(lists); at++ {
			if !slices.Equal(lists[at], was[at]) {
				t.Fatal("lists of one answer share their memory")
			}
		}
	}
	isFound(t, g, 5, api.MaxBudget, was[0])
	if !gram.Same(g, sample.Load(sums)) {
		t.Error("turned")
	}
}

// Rule 1: no call panics, whatever it is handed.
func TestNoPanic(t *testing.T) {
	for _, g := range sample.Odd() {
		for i, a := range sample.Wild() {
			b := sample.Wild()[(i*3+1)%7]
			ambig.Find(g, min(a, 4), 2000)
			ambig.Find(g, a, 500)
			ambig.Find(g, 2, min(a, 3000))
			ambig.Check(g, ambig.Proof{Word: []int{a, b}, A: []int{b, a}, B: sample.Wild()})
			ambig.Check(g, ambig.Proof{Word: []int{b}, A: []int{0, 1}, B: []int{a}})
			ambig.Check(g, ambig.Proof{A: []int{0}, B: []int{0, 2}})
		}
	}
}
