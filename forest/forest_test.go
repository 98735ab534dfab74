package forest_test

import (
	"math"
	"slices"
	"strings"
	"testing"

	"accidence/api"
	"accidence/deriv"
	"accidence/forest"
	"accidence/gram"
	"accidence/sample"
)

// sums is the chapter's example.
const sums = "s = s 'a' s | 'b' ;"

// isDerivation tells whether rules are a derivation of a word, however many they are.
func isDerivation(g api.Grammar, rules, w []int) bool {
	form := []int{0}
	for part := range slices.Chunk(rules, api.MaxSteps) {
		next, _, e := deriv.Replay(g, form, part)
		if e != api.OK {
			return false
		}
		form = next
	}
	lead, at := deriv.Lead(form)
	return at == -1 && slices.Equal(lead, w)
}

// isForest tells a fault if a word's forest doesn't tell so many derivations, or what it tells is none, or twice the same.
func isForest(t *testing.T, g api.Grammar, w []int, trees int) {
	t.Helper()
	if got := forest.Trees(g, w); got != trees {
		t.Fatalf("%s%v: %d trees, want %d", gram.Print(g), w, got, trees)
	}
	f := forest.New(g, w)
	one, ok := f.One()
	if ok != (trees > 0) || !ok && len(one) > 0 || ok && !isDerivation(g, one, w) {
		t.Fatalf("%s%v: %v, %v", gram.Print(g), w, one, ok)
	}
	a, b, ok := f.Two()
	if ok != (trees > 1) || !ok && len(a)+len(b) > 0 {
		t.Fatalf("%s%v: %v, %v, %v", gram.Print(g), w, a, b, ok)
	}
	if ok && (!isDerivation(g, a, w) || !isDerivation(g, b, w) || slices.Equal(a, b)) {
		t.Fatalf("%s%v: %v, %v", gram.Print(g), w, a, b)
	}
}

// P18.1: how many derivations words have, and which ones are told.
func TestTrees(t *testing.T) {
	const (
		dangling = "s = 'i' s | 'i' s 'e' s | 'x' ;"
		vanish   = "s = t u t ; t = 'a' | ; u = t | 'b' ;"
	)
	for _, c := range []struct {
		text, word string
		trees      int
	}{
		// The chapter's example.
		{sums, "b a b", 1}, {sums, "b a b a b", 2}, {sums, "b", 1}, {sums, "", 0}, {sums, "b b", 0}, {sums, "a", 0}, {sums, "b a b a", 0}, {sums, "b a b a b a b a b", 2},
		{dangling, "i i x e x", 2}, {dangling, "i x e x", 1}, {dangling, "i i x e x e x", 1}, {dangling, "i i i x e x e x", 2}, {dangling, "i x e", 0},
		{vanish, "", 1}, {vanish, "a", 2}, {vanish, "b", 1}, {vanish, "a a", 2}, {vanish, "a a a", 1}, {vanish, "a b", 1}, {vanish, "a b a", 1}, {vanish, "b b", 0}, {vanish, "a a a a", 0},
		// Endlessly many.
		{"s = s | 'a' ;", "a", 2}, {"s = s | 'a' ;", "", 0}, {"s = t ; t = u | 'a' ; u = t | 'b' ;", "a", 2}, {"s = t ; t = u | 'a' ; u = t | 'b' ;", "b", 2}, {"s = s s | ;", "", 2}, {"s = s s | 'a' | ;", "a a a", 2}, {"s = 'a' t ; t = t | ;", "a", 2}, {"s = t s | 'a' ; t = ;", "a", 2}, {"s = 'a' t 'b' ; t = u t | ; u = u | ;", "a b", 2},
		// No end is come to in a round: what leads only there adds none.
		{"s = 'a' | t ; t = t | t t ;", "a", 1}, {"s = 'a' | s t ; t = t | t 'a' ;", "a", 1}, {"s = t ; t = s ;", "", 0}, {"s = s 'a' | 'b' | t ; t = s t ;", "b a a", 1}, {"s = 'a' | t ; t = u ; u = t ;", "a", 1},
		// Two rules, two ends of one rule, two trees of a kid, in the first place, the last one, and between.
		{"s = t | u ; t = 'a' ; u = 'a' ;", "a", 2}, {"s = t t ; t = 'a' | 'a' 'a' ;", "a a a", 2}, {"s = t t ; t = 'a' | 'a' 'a' ;", "a a", 1}, {"s = t t ; t = 'a' | 'a' 'a' ;", "a a a a", 1}, {"s = t 'b' ; t = 'a' | u ; u = 'a' ;", "a b", 2}, {"s = 'b' t ; t = 'a' | u ; u = 'a' ;", "b a", 2}, {"s = 'b' t 'b' ; t = 'a' | u ; u = 'a' ;", "b a b", 2}, {"s = 'b' t 'b' ; t = 'a' | u ; u = 'a' 'b' ;", "b a b", 1},
		// A part of more than one tree that has none of the word.
		{"s = 'b' t 'b' | 'b' 'a' ; t = 'a' | u ; u = 'a' ;", "b a", 1}, {"s = t 'b' | 'a' ; t = t t | 'a' ;", "a", 1},
		// Of no use.
		{"s = 'a' ; t = t | 'a' ;", "a", 1}, {"s = s ;", "", 0}, {"s = t 'a' ; t = t 'b' ;", "a", 0}, {"s = ;", "", 1},
		// As long as may be.
		{"s = 'a' s | ;", "a a a a a a a a a a", 1}, {"s = 'a' s | s 'a' | ;", "a a a a a a a a a a", 2}, {"s = 'a' s 'b' | ;", "a a a a a b b b b b", 1}, {"s = 'a' s 'b' | ;", "a a a a a b b b b", 0},
	} {
		g := sample.Load(c.text)
		w, at := gram.Word(g, c.word)
		if at >= 0 {
			t.Fatalf("%s: %d", c.word, at)
		}
		isForest(t, g, w, c.trees)
	}
	g := sample.Load(sums)
	if one, ok := forest.New(g, []int{1, 0, 1}).One(); !ok || !slices.Equal(one, []int{0, 1, 1}) {
		t.Errorf("%v, %v", one, ok)
	}
	one, two, ok := forest.New(g, []int{1, 0, 1, 0, 1}).Two()
	if both := [][]int{{0, 0, 1, 1, 1}, {0, 1, 0, 1, 1}}; !ok || !slices.Equal(slices.MinFunc([][]int{one, two}, slices.Compare), both[0]) || !slices.Equal(slices.MaxFunc([][]int{one, two}, slices.Compare), both[1]) {
		t.Errorf("%v, %v, %v", one, two, ok)
	}
}

// P18.1: what is no terminal is in no word.
func TestNoTerminal(t *testing.T) {
	g := sample.Load("s = s | t | 'a' ; t = 'a' t | ;")
	for _, s := range []int{math.MinInt, -2, -1, 1, 2, 64, math.MaxInt} {
		for _, w := range [][]int{{s}, {0, s}, {s, 0}, {0, s, 0}} {
			isForest(t, g, w, 0)
		}
	}
}

// P18.1: there is no forest of a word that is too long.
func TestTooLong(t *testing.T) {
	for _, text := range []string{"s = s 'a' | ;", "s = s s | 'a' | ;", "s = ;"} {
		g := sample.Load(text)
		for n := range 30 {
			w := make([]int, n)
			f := forest.New(g, w)
			if (f != nil) != (n <= api.MaxLen) {
				t.Errorf("%s %d: %v", text, n, f)
			}
			if f != nil {
				continue
			}
			one, ok := f.One()
			a, b, fine := f.Two()
			if forest.Trees(g, w) != 0 || ok || fine || len(one)+len(a)+len(b) > 0 {
				t.Errorf("%s %d: %d, %v, %v, %v", text, n, forest.Trees(g, w), one, a, b)
			}
		}
	}
}

// P18.1: as many symbols and rules as there may be.
func TestWide(t *testing.T) {
	nothing := sample.Load("s =" + strings.Repeat(" t", api.MaxRight) + " ; t = 'a' | ;")
	itself := sample.Load("s =" + strings.Repeat(" s", api.MaxRight) + " | 'a' | ;")
	for n := range api.MaxLen + 1 {
		isForest(t, nothing, make([]int, n), min(n+1, 2))
		isForest(t, itself, make([]int, n), 2)
	}
	var b strings.Builder
	for v := range api.MaxVars {
		next := " " + sample.Name((v+1)%api.MaxVars)
		b.WriteString(sample.Name(v) + " =" + next + " |" + next + " 'a' | 'b' ; ")
	}
	g := sample.Load(b.String())
	isForest(t, g, []int{1}, 2)
	isForest(t, g, []int{1, 0, 0, 0, 0, 0, 0, 0, 0, 0}, 2)
	isForest(t, g, []int{0, 1}, 0)
}

// P18.1: derivations of more steps than may be gone through at once are told, and of endlessly many short ones.
func TestManySteps(t *testing.T) {
	for _, c := range []struct {
		text         string
		w            []int
		trees, steps int
	}{
		{sample.Doubled(12, 2, "", ""), nil, 1, 4095}, {sample.Doubled(13, 2, "", ""), nil, 1, 8191}, {sample.Doubled(18, 2, "", ""), nil, 1, 1<<18 - 1}, {sample.Doubled(5, 24, "", ""), nil, 1, 1 + 24 + 24*24 + 24*24*24 + 24*24*24*24},
		{"s = v0 'a' | t ; t = v0 'a' v0 ; " + sample.Doubled(13, 2, "", ""), []int{0}, 2, 8192}, {"s = 'a' v0 ; " + sample.Doubled(13, 2, "", " | v12"), []int{0}, 2, 8192},
		{"s = v0 | t ; t = u ; u = w ; w = ; " + sample.Doubled(13, 2, "", ""), nil, 2, 4}, {"s = v0 s | s v0 | 'a' | 'a' t ; t = ; " + sample.Doubled(13, 2, "", ""), []int{0}, 2, 1},
	} {
		g := sample.Load(c.text)
		isForest(t, g, c.w, c.trees)
		if one, _ := forest.New(g, c.w).One(); len(one) != c.steps {
			t.Errorf("%s: %d steps, want %d", c.text, len(one), c.steps)
		}
	}
	g := sample.Load("s = v0 s | s v0 | 'a' | 'a' t ; t = ; " + sample.Doubled(13, 2, "", ""))
	if a, b, _ := forest.New(g, []int{0}).Two(); len(a)+len(b) != 3 {
		t.Errorf("%v, %v", a, b)
	}
}

// P18.1: how many derivations there are is told too if they have so many steps that there are no numbers for them.
func TestCount(t *testing.T) {
	for last, want := range map[string]int{"": 1, "'a'": 0, " | v63": 2, " | 'a'": 1, "v63": 0} {
		if got := forest.Trees(sample.Load(sample.Doubled(64, 24, "", last)), nil); got != want {
			t.Errorf("%q: %d, want %d", last, got, want)
		}
	}
	for last, want := range map[string]int{"": 0, "'a'": 0, " | v63": 0, " | 'a'": 2} {
		if got := forest.Trees(sample.Load(sample.Doubled(64, 24, "", last)), []int{0}); got != want {
			t.Errorf("%q: %d, want %d", last, got, want)
		}
	}
	// Those are too many to tell.
	for _, last := range []string{"", " | v63"} {
		f := forest.New(sample.Load(sample.Doubled(64, 24, "", last)), nil)
		one, ok := f.One()
		a, b, fine := f.Two()
		if ok || fine || len(one)+len(a)+len(b) > 0 {
			t.Errorf("%q: %v, %v", last, ok, fine)
		}
	}
	// One of few steps, and one of too many.
	f := forest.New(sample.Load("s = v0 | ; "+sample.Doubled(63, 24, "", "")), nil)
	if one, ok := f.One(); !ok || !slices.Equal(one, []int{1}) {
		t.Errorf("%v, %v", one, ok)
	}
}

// Rule 4: what is told is new memory, and what is handed in stays, and may be turned behind the call.
func TestNewMemory(t *testing.T) {
	g := sample.Load(sums)
	w := []int{1, 0, 1, 0, 1}
	f := forest.New(g, w)
	if !slices.Equal(w, []int{1, 0, 1, 0, 1}) || gram.Print(g) != gram.Print(sample.Load(sums)) {
		t.Error("turned")
	}
	w[0], w[2] = 7, 0
	one, _ := f.One()
	a, b, _ := f.Two()
	want := [][]int{slices.Clone(one), slices.Clone(a), slices.Clone(b)}
	for _, list := range [][]int{one, a, b} {
		for i := range list[:cap(list)] {
			list[:cap(list)][i] = 77
		}
	}
	one, _ = f.One()
	a, b, _ = f.Two()
	if !slices.EqualFunc([][]int{one, a, b}, want, slices.Equal) || !isDerivation(g, one, []int{1, 0, 1, 0, 1}) {
		t.Errorf("%v, %v, %v, want %v", one, a, b, want)
	}
	turned := slices.Clone(a)
	for i := range b[:cap(b)] {
		b[:cap(b)][i] = 77
	}
	if !slices.Equal(a, turned) {
		t.Error("lists of one answer share their memory")
	}
}

// Rule 1: no call panics, whatever it is handed.
func TestNoPanic(t *testing.T) {
	for _, g := range sample.Odd() {
		for _, w := range [][]int{nil, {0}, sample.Wild(), {0, 1, 0, 1, 0, 1, 0, 1, 0, 1}} {
			forest.Trees(g, w)
			f := forest.New(g, w)
			f.One()
			f.Two()
		}
	}
	var f forest.Forest
	if one, ok := f.One(); ok || len(one) > 0 {
		t.Errorf("%v", one)
	}
	f.Two()
}
