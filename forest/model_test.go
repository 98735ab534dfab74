package forest_test

import (
	"slices"
	"testing"

	"accidence/api"
	"accidence/deriv"
	"accidence/forest"
	"accidence/gram"
	"accidence/sample"
	"accidence/useful"
)

// counts is how many trees there are of each variable and each part of a word, more than one as two.
type counts map[[3]int]int

// higher is how many trees there are that are higher by one than those of some counts at most.
func higher(g api.Grammar, w []int, low counts) counts {
	all := counts{}
	for _, r := range g.Rules {
		for from := range len(w) + 1 {
			for to := from; to <= len(w); to++ {
				if n := low.of(r.Right, w, from, to); n > 0 {
					all[[3]int{r.Left, from, to}] = min(all[[3]int{r.Left, from, to}]+n, 2)
				}
			}
		}
	}
	return all
}

// of is in how many ways a form makes a part of a word.
func (c counts) of(form, w []int, from, to int) int {
	switch {
	case len(form) == 0 && from == to:
		return 1
	case len(form) == 0 || form[0] < 0 && (from == to || w[from] != ^form[0]):
		return 0
	case form[0] < 0:
		return c.of(form[1:], w, from+1, to)
	}
	n := 0
	for at := from; at <= to && n < 2; at++ {
		if own := c[[3]int{form[0], from, at}]; own > 0 {
			n += own * c.of(form[1:], w, at, to)
		}
	}
	return min(n, 2)
}

// trees is how many trees a word has, more than one as two: as many as have any height.
func trees(g api.Grammar, w []int) int {
	low := counts{}
	for {
		next := higher(g, w, low)
		same := len(next) == len(low)
		for key, n := range next {
			same = same && low[key] == n
		}
		if same {
			return low[[3]int{0, 0, len(w)}]
		}
		low = next
	}
}

// P18.1, P18.2: words of grammars of chance, not all of which is of use.
func TestModel(t *testing.T) {
	r := sample.Roll(229)
	var seen [3]int
	for range 6000 {
		g := r.Grammar()
		for range 4 {
			w := make([]int, r.Of(5))
			for i := range w {
				w[i] = r.Of(max(len(g.Terms), 1))
			}
			n := trees(g, w)
			isForest(t, g, w, n)
			seen[n]++
		}
	}
	if seen[0] < 2000 || seen[1] < 1000 || seen[2] < 2000 {
		t.Errorf("%v", seen)
	}
}

// P18.1, P18.2: words of derivations of chance.
func TestDerivations(t *testing.T) {
	r := sample.Roll(233)
	var seen [3]int
	for range 6000 {
		g := r.Useful()
		rules := r.Derivation(g, []int{0})
		w, e := deriv.Yield(g, []int{0}, rules)
		if e != api.OK || len(w) > api.MaxLen {
			continue
		}
		n := forest.Trees(g, w)
		isForest(t, g, w, n)
		seen[n]++
		if n == 1 {
			if one, _ := forest.New(g, w).One(); !slices.Equal(one, rules) {
				t.Fatalf("%s%v: %v, but there is %v", gram.Print(g), w, one, rules)
			}
		}
	}
	if seen[0] > 0 || seen[1] < 1000 || seen[2] < 1000 {
		t.Errorf("%v", seen)
	}
}

// derivations is all derivations from the start, of a grammar that has but so many; none, if there are too many.
func derivations(g api.Grammar) [][]int {
	var all [][]int
	todo := [][]int{nil}
	for len(todo) > 0 && len(all) < 2000 {
		rules := todo[len(todo)-1]
		todo = todo[:len(todo)-1]
		form, _, e := deriv.Replay(g, []int{0}, rules)
		_, at := deriv.Lead(form)
		if e != api.OK {
			return nil
		}
		if at < 0 {
			all = append(all, rules)
			continue
		}
		lo, hi := gram.Rules(g, form[at])
		for rule := lo; rule < hi; rule++ {
			todo = append(todo, append(slices.Clone(rules), rule))
		}
	}
	if len(todo) > 0 {
		return nil
	}
	return all
}

// P18.1, P18.2: of grammars of but so many derivations each word has as many as lead to it, and what is told is among these.
func TestFinite(t *testing.T) {
	r := sample.Roll(239)
	asked := 0
	for range 3000 {
		g := r.Finite()
		all := derivations(g)
		known := map[string][][]int{}
		words := map[string][]int{}
		for _, rules := range all {
			w, _ := deriv.Yield(g, []int{0}, rules)
			key := ""
			for _, s := range w {
				key += string(rune('a' + s))
			}
			known[key], words[key] = append(known[key], rules), w
		}
		for key, list := range known {
			w := words[key]
			if len(w) > api.MaxLen {
				continue
			}
			asked++
			isForest(t, g, w, min(len(list), 2))
			f := forest.New(g, w)
			one, _ := f.One()
			a, b, _ := f.Two()
			for _, told := range [][]int{one, a, b} {
				if len(told) > 0 && !slices.ContainsFunc(list, func(rules []int) bool { return slices.Equal(rules, told) }) {
					t.Fatalf("%s%v: %v", gram.Print(g), w, told)
				}
			}
		}
	}
	if asked < 10000 {
		t.Errorf("%d words", asked)
	}
}

// P18.1, P18.2: great grammars.
func TestGreat(t *testing.T) {
	r := sample.Roll(241)
	var seen [3]int
	for range 1500 {
		g := r.Great()
		w := make([]int, r.Of(4))
		for i := range w {
			w[i] = r.Of(max(len(g.Terms), 1))
		}
		if less, _, ok := useful.Reduce(g); ok {
			g = less
			if word, e := deriv.Yield(g, []int{0}, r.Derivation(g, []int{0})); e == api.OK && len(word) < 5 {
				w = word
			}
		}
		n := trees(g, w)
		isForest(t, g, w, n)
		seen[n]++
	}
	if seen[0] < 300 || seen[1] < 300 || seen[2] < 40 {
		t.Errorf("%v", seen)
	}
}

// Rule 6: names and weights have no part in it, nor what was called ahead, nor a map's order.
func TestSameAgain(t *testing.T) {
	r := sample.Roll(251)
	for range 2000 {
		g := r.Grammar()
		w := make([]int, r.Of(7))
		for i := range w {
			w[i] = r.Of(max(len(g.Terms), 1))
		}
		f, h := forest.New(g, w), forest.New(sample.Renamed(g), w)
		one, _ := f.One()
		a, b, ok := f.Two()
		two, _ := h.One()
		c, d, fine := h.Two()
		if ok != fine || !slices.Equal(one, two) || !slices.Equal(a, c) || !slices.Equal(b, d) {
			t.Fatalf("%s%v: %v, %v, %v, and %v, %v, %v", gram.Print(g), w, one, a, b, two, c, d)
		}
	}
}
