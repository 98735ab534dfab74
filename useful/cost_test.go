package useful_test

import (
	"math"
	"slices"
	"strings"
	"testing"

	"accidence/api"
	"accidence/deriv"
	"accidence/sample"
	"accidence/useful"
)

// P9.1: how long the shortest words are, and by which rule they come, where just one does.
func TestCost(t *testing.T) {
	const far = useful.Far
	for _, c := range []struct {
		text       string
		cost, best []int
	}{
		{"s = 'a' s | t | u ; t = ; u = u 'b' ; w = 'a' ;", []int{0, 0, far, 1}, []int{1, 3, -1, 5}},
		{"s = ;", []int{0}, []int{0}}, {"s = s ;", []int{far}, []int{-1}}, {"s = s | t ; t = t s ;", []int{far, far}, []int{-1, -1}},
		// The shortest one, wherever its rule is.
		{"s = 'a' 'a' | 'b' | 'c' 'c' 'c' ;", []int{1}, []int{1}}, {"s = 'a' 'a' 'a' | 'a' 'a' | 'a' ;", []int{1}, []int{2}}, {"s = 'a' | 'a' 'a' | 'a' 'a' 'a' ;", []int{1}, []int{0}},
		{"s = 'a' 'a' 'a' | t | u ; t = 'b' 'b' | u 'a' ; u = 'c' 'c' | ;", []int{0, 1, 0}, []int{2, 4, 6}},
		{"s = t t | 'a' 'a' 'a' ; t = u u | 'b' ; u = 'a' 'b' ;", []int{2, 1, 2}, []int{0, 3, 4}},
		{"s = t t | 'a' 'a' 'a' ; t = u | 'b' 'b' ; u = 'a' 'b' v ; v = 'c' v | 'c' ;", []int{3, 2, 3, 1}, []int{1, 3, 4, 6}},
		// Better only far behind.
		{"s = 'a' 'a' 'a' 'a' 'a' | t ; t = 'a' 'a' 'a' 'a' | u ; u = 'a' 'a' 'a' | v ; v = 'a' 'a' | w ; w = 'a' ;", []int{1, 1, 1, 1, 1}, []int{1, 3, 5, 7, 8}},
		// In a round, there is but one way out.
		{"s = s | t ; t = s | u ; u = t | ;", []int{0, 0, 0}, []int{1, 3, 5}}, {"s = s s | t s | 'a' ; t = s | t ;", []int{1, 1}, []int{2, 3}},
		{"s = t ; t = s | s s | 'a' s | 'b' ;", []int{1, 1}, []int{0, 4}}, {"s = s s | ;", []int{0}, []int{1}}, {"s = | s s ;", []int{0}, []int{0}},
		{"s = 'a' s 'b' | t ; t = s 'c' | 'c' s | u t | 'd' ; u = u | s ;", []int{1, 1, 1}, []int{1, 5, 7}},
		// Weights have no part in it.
		{"s = %-inf 'a' 'a' | %inf 'a' | %nan 'a' 'a' 'a' ;", []int{1}, []int{1}},
	} {
		g := sample.Load(c.text)
		if cost, best := useful.Cost(g); !slices.Equal(cost, c.cost) || !slices.Equal(best, c.best) {
			t.Errorf("%s: %v, %v, want %v, %v", c.text, cost, best, c.cost, c.best)
		}
	}
}

// P9.1: words of Far terminals and more are too long, even if there are no numbers for how many they have.
func TestFar(t *testing.T) {
	// 2^30 terminals, and half of these.
	g := sample.Load(sample.Doubled(31, 2, "", "'a'"))
	cost, best := useful.Cost(g)
	if cost[0] != useful.Far || best[0] != -1 || cost[1] != useful.Far/2 || best[1] != 1 || cost[30] != 1 {
		t.Errorf("%v, %v", cost, best)
	}
	// One terminal less than 2^30.
	g = sample.Load(sample.Doubled(30, 2, " 'b'", "'a'"))
	if cost, best := useful.Cost(g); cost[0] != useful.Far-1 || best[0] != 0 || cost[1] != useful.Far/2-1 {
		t.Errorf("%v, %v", cost, best)
	}
	// Those, and one more; and another way, behind.
	g = sample.Load("s = 'b' v0 | t ; t = v0 | t 'a' ; " + sample.Doubled(30, 2, " 'b'", "'a'"))
	if cost, best := useful.Cost(g); cost[0] != useful.Far-1 || best[0] != 1 || cost[1] != useful.Far-1 || best[1] != 2 {
		t.Errorf("%v, %v", cost, best)
	}
	g = sample.Load("s = 'b' v0 | t 'a' ; t = v0 | t 'a' ; " + sample.Doubled(30, 2, " 'b'", "'a'"))
	if cost, best := useful.Cost(g); cost[0] != useful.Far || best[0] != -1 || cost[1] != useful.Far-1 || best[1] != 2 {
		t.Errorf("%v, %v", cost, best)
	}
	// 24^63 terminals: all but the last few variables are too far, but become words.
	g = sample.Load(sample.Doubled(64, 24, "", "'a' | 'a' 'a'"))
	cost, best = useful.Cost(g)
	for v, n := range cost {
		want, rule := useful.Far, -1
		if v >= 57 {
			want, rule = int(math.Pow(24, float64(63-v))), v
		}
		if n != want || best[v] != rule {
			t.Errorf("%d: %d, %d, want %d, %d", v, n, best[v], want, rule)
		}
	}
	if slices.Contains(useful.Productive(g), false) || slices.Contains(useful.Useful(g), false) {
		t.Error("too far, but of use")
	}
	// 24^7 terminals by fewer than 2^30 steps.
	g = sample.Load(sample.Doubled(7, 24, "", strings.Repeat("'a' ", 24)+"| v0"))
	if cost, best := useful.Cost(g); cost[0] != useful.Far || best[0] != -1 || cost[1] != 191102976 || best[1] != 1 {
		t.Errorf("%v, %v", cost, best)
	}
	// By 24^63 steps to the empty word.
	g = sample.Load(sample.Doubled(64, 24, "", ""))
	cost, best = useful.Cost(g)
	for v, n := range cost {
		if n != 0 || best[v] != v {
			t.Errorf("%d: %d, %d", v, n, best[v])
		}
	}
}

// P9.1: the derivations of shortest words.
func TestShortest(t *testing.T) {
	for _, c := range []struct {
		text string
		v    int
		want []int
	}{
		{"s = 'a' s | t | u ; t = ; u = u 'b' ; w = 'a' ;", 0, []int{1, 3}},
		{"s = 'a' s | t | u ; t = ; u = u 'b' ; w = 'a' ;", 1, []int{3}},
		{"s = 'a' s | t | u ; t = ; u = u 'b' ; w = 'a' ;", 3, []int{5}},
		{"s = t 'a' u t ; t = 'b' u | 'a' 'a' 'a' ; u = v | 'c' ; v = ;", 0, []int{0, 1, 3, 5, 3, 5, 1, 3, 5}},
		{"s = s 't' t | t ; t = u v ; u = u 'a' | 'a' ; v = 'b' | 'b' v ;", 0, []int{1, 2, 4, 5}},
	} {
		g := sample.Load(c.text)
		got, ok := useful.Shortest(g, c.v)
		if !ok || !slices.Equal(got, c.want) {
			t.Errorf("%s of %d: %v, %v, want %v", c.text, c.v, got, ok, c.want)
		}
	}
}

// P9.1: no derivation, if there is no such variable, or it becomes no word, or too long a one.
func TestNoShortest(t *testing.T) {
	for _, c := range []struct {
		text string
		list []int
	}{
		{"s = 'a' s | t | u ; t = ; u = u 'b' ; w = 'a' ;", []int{2, 4, 5, 64, math.MaxInt, -1, -2, -3, math.MinInt}},
		{"s = s ;", []int{0, 1, -1}},
		{sample.Doubled(31, 2, "", "'a'"), []int{0}},
		{sample.Doubled(64, 24, "", "'a'"), []int{0, 1, 30}},
	} {
		for _, v := range c.list {
			if got, ok := useful.Shortest(sample.Load(c.text), v); ok || len(got) != 0 {
				t.Errorf("%s of %d: %d steps, %v", c.text, v, len(got), ok)
			}
		}
	}
}

// P9.1: as many steps as a derivation may have, and one more.
func TestMostSteps(t *testing.T) {
	for _, last := range []string{"", "'a'", "'a' 'b'"} {
		// v0 takes 4095 steps.
		g := sample.Load("s = t ; t = v0 ; u = 'b' v0 v11 ; " + sample.Doubled(12, 2, "", last))
		for v, want := range []int{0, 4096, 0, 4095, 2047, 1023} {
			got, ok := useful.Shortest(g, v)
			if ok != (want > 0) || len(got) != want {
				t.Errorf("%q: %d: %d steps, %v, want %d", last, v, len(got), ok, want)
			}
		}
		rules, _ := useful.Shortest(g, 1)
		cost, _ := useful.Cost(g)
		if word, e := deriv.Yield(g, []int{1}, rules); e != api.OK || len(word) != cost[1] {
			t.Errorf("%q: %d terminals, %d, want %d", last, len(word), e, cost[1])
		}
	}
	// Far too many, of one terminal less than 2^30.
	if got, ok := useful.Shortest(sample.Load(sample.Doubled(30, 2, " 'b'", "'a'")), 0); ok || len(got) != 0 {
		t.Errorf("%d steps, %v", len(got), ok)
	}
	// Of no terminal, so many that there are no numbers for them.
	for times := 2; times <= api.MaxRight; times++ {
		g := sample.Load(sample.Doubled(64, times, "", ""))
		want := 1
		for v := 63; v >= 0; v-- {
			got, ok := useful.Shortest(g, v)
			if ok != (want > 0) || len(got) != want {
				t.Errorf("%d times: %d: %d steps, %v, want %d", times, v, len(got), ok, want)
			}
			if want = want*times + 1; want > api.MaxSteps || !ok {
				want = 0
			}
		}
	}
}

// Of equal words the one that comes by fewer steps is taken, wherever its rules are, so that there is a derivation, if any has few enough.
func TestFewSteps(t *testing.T) {
	many := sample.Doubled(5, 24, "", "")
	for _, text := range []string{"s = v0 | t ; t = u ; u = w ; w = x ; x = y ; y = z ; z = ; ", "s = t | v0 ; z = ; y = z ; x = y ; w = x ; u = w ; t = u ; "} {
		g := sample.Load(text + many)
		if got, ok := useful.Shortest(g, 0); !ok || len(got) != 7 {
			t.Errorf("%s: %d steps, %v", text, len(got), ok)
		}
	}
}
