package chart_test

import (
	"slices"
	"testing"

	"accidence/api"
	"accidence/chart"
	"accidence/deriv"
	"accidence/gram"
	"accidence/sample"
	"accidence/strs"
	"accidence/useful"
)

// least is how long the shortest word is that begins with some terminals; useful.Far: there is none. A variable goes from one place of these to another one by so many terminals at least; behind the last one each terminal stays at its place.
func least(g api.Grammar, w []int) int {
	n := len(w) + 1
	ways := make([][][]int, len(g.Vars))
	for v := range ways {
		for range n {
			ways[v] = append(ways[v], slices.Repeat([]int{useful.Far}, n))
		}
	}
	for more := true; more; {
		more = false
		for _, r := range g.Rules {
			for from := range n {
				for to, all := range walk(r.Right, w, from, ways) {
					if all < ways[r.Left][from][to] {
						ways[r.Left][from][to], more = all, true
					}
				}
			}
		}
	}
	return ways[0][0][len(w)]
}

// walk is by how many terminals one goes through a form to each place, from one on.
func walk(form, w []int, from int, ways [][][]int) []int {
	row := slices.Repeat([]int{useful.Far}, len(w)+1)
	row[from] = 0
	for _, s := range form {
		next := slices.Repeat([]int{useful.Far}, len(w)+1)
		for at, all := range row {
			switch {
			case s >= 0:
				for to, more := range ways[s][at] {
					next[to] = min(next[to], all+more)
				}
			case at == len(w):
				next[at] = min(next[at], all+1)
			case w[at] == ^s:
				next[at+1] = min(next[at+1], all+1)
			}
		}
		row = next
	}
	return row
}

// isChart tells a fault if what a chart of some terminals answers isn't what the lengths of words tell.
func isChart(t *testing.T, g api.Grammar, c *chart.Chart) {
	t.Helper()
	w := c.Word()
	short := min(least(g, w)-len(w), useful.Far)
	if len(w) == 0 && short == useful.Far {
		if c.Accepts() || c.Short() != useful.Far || len(c.Next()) > 0 {
			t.Fatalf("%s: %v, %d, %v", gram.Print(g), c.Accepts(), c.Short(), c.Next())
		}
		return
	}
	if c.Short() != short || c.Accepts() != (short == 0) {
		t.Fatalf("%s%v: %d, %v, want %d", gram.Print(g), w, c.Short(), c.Accepts(), short)
	}
	var next, finish []int
	for s := range g.Terms {
		if least(g, append(slices.Clone(w), s)) < useful.Far {
			next = append(next, s)
		}
	}
	if !slices.Equal(c.Next(), next) {
		t.Fatalf("%s%v: %v, want %v", gram.Print(g), w, c.Next(), next)
	}
	for left := short; left > 0; left-- {
		for s := range g.Terms {
			if more := append(slices.Concat(w, finish), s); least(g, more) == len(w)+short {
				finish = more[len(w):]
				break
			}
		}
	}
	if got, ok := c.Finish(); !ok || !slices.Equal(got, finish) || !slices.Equal(c.Word(), w) {
		t.Fatalf("%s%v: %v, %v, want %v", gram.Print(g), w, got, ok, finish)
	}
}

// goOn pushes terminals of chance, mostly ones that go on, and takes some off, and tells a fault if one is put behind that isn't told to go on, or the other way round. It is how many were put behind.
func goOn(t *testing.T, r *sample.Roll, g api.Grammar, c *chart.Chart, steps int) int {
	t.Helper()
	n := 0
	for range steps {
		w, next := c.Word(), c.Next()
		switch {
		case r.Of(5) == 0:
			if c.Pop() != (len(w) > 0) {
				t.Fatalf("%s%v: %v", gram.Print(g), w, c.Word())
			}
			w = w[:max(len(w)-1, 0)]
		case r.Of(3) == 0 || len(next) == 0:
			s := r.Of(len(g.Terms)+2) - 1
			goes := slices.Contains(next, s)
			if c.Push(s) != goes {
				t.Fatalf("%s%v: %d, though next are %v", gram.Print(g), w, s, next)
			}
			if goes {
				w = append(w, s)
			}
		default:
			s := next[r.Of(len(next))]
			if !c.Push(s) {
				t.Fatalf("%s%v: %d doesn't go on", gram.Print(g), w, s)
			}
			w = append(w, s)
			n++
		}
		if !slices.Equal(c.Word(), w) || c.Len() != len(w) {
			t.Fatalf("%s%v: %v", gram.Print(g), w, c.Word())
		}
	}
	return n
}

// P17.1: charts of grammars of chance, not all of which is of use, behind terminals of chance.
func TestModel(t *testing.T) {
	r := sample.Roll(197)
	n := 0
	for range 2500 {
		g := r.Grammar()
		c := chart.New(g)
		isChart(t, g, c)
		for range 4 {
			n += goOn(t, &r, g, c, 3)
			isChart(t, g, c)
		}
	}
	if n < 5000 {
		t.Errorf("%d terminals", n)
	}
}

// P17.1: charts of great grammars.
func TestGreat(t *testing.T) {
	r := sample.Roll(199)
	n := 0
	for range 150 {
		g := r.Great()
		c := chart.New(g)
		for range 3 {
			n += goOn(t, &r, g, c, 4)
			w := c.Word()
			if short := least(g, w) - len(w); len(w) > 0 && (c.Short() != short || c.Accepts() != (short == 0)) {
				t.Fatalf("%s%v: %d, %v, want %d", gram.Print(g), w, c.Short(), c.Accepts(), short)
			}
			if next := c.Next(); len(next) > 0 {
				if got := least(g, append(w, next[0])); got == useful.Far {
					t.Fatalf("%s%v: %d", gram.Print(g), w, next)
				}
			}
		}
	}
	if n < 300 {
		t.Errorf("%d terminals", n)
	}
}

// words is all words of a grammar that has but so many.
func words(g api.Grammar) [][]int {
	return slices.DeleteFunc(terminals(sample.Forms(g, []int{0})), func(w []int) bool { return w == nil })
}

// terminals is the terminals of forms; nil of one that has a variable.
func terminals(forms [][]int) [][]int {
	var list [][]int
	for _, form := range forms {
		w := []int{}
		for _, s := range form {
			w = append(w, ^s)
		}
		if slices.ContainsFunc(form, gram.IsVar) {
			w = nil
		}
		list = append(list, w)
	}
	return list
}

// P17.1: of grammars of but so many words what begins with what.
func TestFinite(t *testing.T) {
	r := sample.Roll(211)
	asked := 0
	for range 1500 {
		g := r.Finite()
		all := words(g)
		for _, one := range all {
			for n := range len(one) + 1 {
				isOf(t, g, all, one[:n])
				asked++
			}
			// Terminals that may go on no more.
			w := append(slices.Clone(one), r.Of(len(g.Terms)+1))
			n := 0
			for n < len(w) && slices.ContainsFunc(all, func(other []int) bool { return begins(other, w[:n+1]) }) {
				n++
			}
			whole := slices.ContainsFunc(all, func(other []int) bool { return slices.Equal(other, w) })
			if chart.Prefix(g, w) != n || chart.Accepts(g, w) != whole || !chart.Accepts(g, one) {
				t.Fatalf("%s%v: %d, want %d", gram.Print(g), w, chart.Prefix(g, w), n)
			}
		}
	}
	if asked < 10000 {
		t.Errorf("%d beginnings", asked)
	}
}

// begins tells whether a word begins with some terminals.
func begins(word, w []int) bool { return len(word) >= len(w) && slices.Equal(word[:len(w)], w) }

// isOf tells a fault if a chart of some terminals doesn't answer as all words tell.
func isOf(t *testing.T, g api.Grammar, all [][]int, w []int) {
	t.Helper()
	c := of(t, g, w)
	next, whole := map[int]bool{}, false
	var finish []int
	for _, one := range all {
		if !begins(one, w) {
			continue
		}
		rest := one[len(w):]
		if len(rest) == 0 {
			whole = true
		} else {
			next[rest[0]] = true
		}
		if finish == nil || len(rest) < len(finish) || len(rest) == len(finish) && strs.Compare(rest, finish) < 0 {
			finish = rest
		}
	}
	for s := range g.Terms {
		if slices.Contains(c.Next(), s) != next[s] {
			t.Fatalf("%s%v: %v, want %v", gram.Print(g), w, c.Next(), next)
		}
	}
	if got, ok := c.Finish(); !ok || !slices.Equal(got, finish) || c.Short() != len(finish) || c.Accepts() != whole || len(c.Next()) != len(next) {
		t.Fatalf("%s%v: %v, %v, want %v", gram.Print(g), w, got, ok, finish)
	}
}

// P17.1: the words of derivations of chance, many of which are long.
func TestDerivations(t *testing.T) {
	r := sample.Roll(223)
	long := 0
	for range 3000 {
		g := r.Useful()
		w, e := deriv.Yield(g, []int{0}, r.Derivation(g, []int{0}))
		if e != api.OK {
			continue
		}
		c := of(t, g, w)
		if !c.Accepts() || c.Short() != 0 || !chart.Accepts(g, w) {
			t.Fatalf("%s%v: %d", gram.Print(g), w, c.Short())
		}
		for len(w) > 0 {
			c.Pop()
			last := w[len(w)-1]
			if w = w[:len(w)-1]; !slices.Contains(c.Next(), last) {
				t.Fatalf("%s%v: %v", gram.Print(g), w, c.Next())
			}
			rest, ok := c.Finish()
			if !ok || len(rest) != c.Short() || !chart.Accepts(g, slices.Concat(w, rest)) {
				t.Fatalf("%s%v: %v", gram.Print(g), w, rest)
			}
			if len(w) > 10 {
				long++
			}
		}
	}
	if long < 250 {
		t.Errorf("%d long ones", long)
	}
}

// Rule 6: names and weights have no part in it, nor in which way one came to some terminals.
func TestSameAgain(t *testing.T) {
	r := sample.Roll(227)
	for range 1000 {
		g := r.Grammar()
		c := chart.New(g)
		goOn(t, &r, g, c, 12)
		d := of(t, sample.Renamed(g), c.Word())
		one, ok := c.Finish()
		two, fine := d.Finish()
		if ok != fine || !slices.Equal(one, two) || c.Short() != d.Short() || c.Accepts() != d.Accepts() || !slices.Equal(c.Next(), d.Next()) {
			t.Fatalf("%s%v: %v, %v", gram.Print(g), c.Word(), one, two)
		}
	}
}
