package mini_test

import (
	"slices"
	"testing"

	"accidence/dfa"
	"accidence/gram"
	"accidence/mini"
	"accidence/sample"
)

// isRight tells whether an automaton is laid out as one, by the chapter's words.
func isRight(d dfa.Dfa) bool {
	ok := len(d.Next) > 0 && len(d.Next) == len(d.Rule)
	for i := range d.Next {
		ok = ok && len(d.Next[i]) == len(d.Next[0]) && len(d.Next[i]) > 0
		for _, to := range d.Next[i] {
			ok = ok && -1 <= to && to <= len(d.Next)-1
			if ok && d.Rule[i] != -1 {
				ok = to == -1
			}
		}
	}
	for _, rule := range d.Rule {
		ok = ok && rule >= -1
	}
	return ok
}

// apart is which states of two automata don't do the same: those that don't mean the same, and then, again and again, those which a terminal, or the end, leads apart.
func apart(a, b dfa.Dfa) [][]bool {
	list := make([][]bool, len(a.Next))
	for i := range list {
		list[i] = make([]bool, len(b.Next))
		for j := range list[i] {
			list[i][j] = a.Rule[i] != b.Rule[j]
		}
	}
	for more := true; more; {
		more = false
		for i := range list {
			for j := range list[i] {
				for at, to := range a.Next[i] {
					other := b.Next[j][at]
					if !list[i][j] && ((to < 0) != (other < 0) || to >= 0 && other >= 0 && list[to][other]) {
						list[i][j], more = true, true
					}
				}
			}
		}
	}
	return list
}

// isSame tells whether two automata that are laid out as ones do the same, by all pairs of their states.
func isSame(a, b dfa.Dfa) bool {
	return len(a.Next[0]) == len(b.Next[0]) && !apart(a, b)[0][0]
}

// least is an automaton of as few states as may be, by all pairs of states: of each state that one comes to the first one that does the same.
func least(d dfa.Dfa) dfa.Dfa {
	differ := apart(d, d)
	number := make([]int, len(d.Next))
	for i := range number {
		number[i] = -1
	}
	var found []int
	come := func(state int) int {
		if state < 0 {
			return -1
		}
		first := slices.Index(differ[state], false)
		if number[first] < 0 {
			number[first] = len(found)
			found = append(found, first)
		}
		return number[first]
	}
	come(0)
	var made dfa.Dfa
	for at := 0; at < len(found); at++ {
		var row []int
		for _, to := range d.Next[found[at]] {
			row = append(row, come(to))
		}
		made.Next, made.Rule = append(made.Next, row), append(made.Rule, d.Rule[found[at]])
	}
	return made
}

// isLeast tells a fault if what is told of an automaton isn't so.
func isLeast(t *testing.T, d dfa.Dfa) dfa.Dfa {
	t.Helper()
	if mini.Right(d) != isRight(d) {
		t.Fatalf("%v: %v", d, mini.Right(d))
	}
	got := mini.Least(d)
	if !isRight(d) {
		if got.Next != nil || got.Rule != nil || mini.Same(d, d) {
			t.Fatalf("%v: %v", d, got)
		}
		return got
	}
	if want := least(d); !same(got, want) {
		t.Fatalf("%v: %v, want %v", d, got, want)
	}
	if !mini.Same(d, got) || !mini.Same(got, d) || !mini.Same(d, d) {
		t.Fatalf("%v, %v: not the same", d, got)
	}
	return got
}

// each goes through all lists of so many numbers, each from one on, up to, but not, another one.
func each(n, from, to int, look func([]int)) {
	list := slices.Repeat([]int{from}, n)
	for {
		look(list)
		at := 0
		for ; at < n && list[at] == to-1; at++ {
			list[at] = from
		}
		if at == n {
			return
		}
		list[at]++
	}
}

// P16.1: all small automata, and with them those that are laid out as none.
func TestSmall(t *testing.T) {
	for _, c := range [][2]int{{1, 1}, {1, 2}, {1, 3}, {2, 1}, {2, 2}, {3, 1}} {
		states, width := c[0], c[1]
		each(states, -2, 2, func(rules []int) {
			each(states*width, -2, states+1, func(next []int) {
				d := dfa.Dfa{Rule: slices.Clone(rules)}
				for row := range slices.Chunk(slices.Clone(next), width) {
					d.Next = append(d.Next, row)
				}
				isLeast(t, d)
			})
		})
	}
	each(3, -1, 2, func(rules []int) {
		each(6, -1, 3, func(next []int) {
			isLeast(t, dfa.Dfa{Next: [][]int{next[:2], next[2:4], next[4:]}, Rule: rules})
		})
	})
}

// P16.1: all pairs of small automata that are laid out as ones.
func TestPairs(t *testing.T) {
	var list []dfa.Dfa
	for states := 1; states <= 2; states++ {
		for width := 1; width <= 2; width++ {
			each(states, -1, 2, func(rules []int) {
				each(states*width, -1, states, func(next []int) {
					d := dfa.Dfa{Rule: slices.Clone(rules)}
					for row := range slices.Chunk(slices.Clone(next), width) {
						d.Next = append(d.Next, row)
					}
					if isRight(d) {
						list = append(list, d)
					}
				})
			})
		}
	}
	for _, a := range list {
		for _, b := range list {
			if got := mini.Same(a, b); got != isSame(a, b) || got != same(mini.Least(a), mini.Least(b)) {
				t.Fatalf("%v, %v: %v", a, b, got)
			}
		}
	}
}

// some is an automaton of chance, laid out as one, many of whose states do the same: it is one of few states, with each of them there more than once.
func some(r *sample.Roll) dfa.Dfa {
	few, width, times := 1+r.Of(1+r.Of(30)), 1+r.Of(4), 1+r.Of(4)
	rules := make([]int, few)
	next := make([][]int, few)
	for i := range next {
		rules[i] = max(-1, r.Of(30)-27)
		for range width {
			next[i] = append(next[i], r.Of(few+1)-1)
		}
	}
	var d dfa.Dfa
	for i := range few * times {
		row := slices.Repeat([]int{-1}, width)
		for at := range row {
			if to := next[i%few][at]; to >= 0 && rules[i%few] < 0 {
				row[at] = to + few*r.Of(times)
			}
		}
		d.Next, d.Rule = append(d.Next, row), append(d.Rule, rules[i%few])
	}
	return d
}

// other is an automaton that does the same, with its states in another order, or is turned a little.
func other(r *sample.Roll, d dfa.Dfa) dfa.Dfa {
	n := len(d.Next)
	place := make([]int, n)
	for i := range place {
		place[i] = i
	}
	for i := 1; i < n; i++ {
		j := 1 + r.Of(i)
		place[i], place[j] = place[j], place[i]
	}
	made := dfa.Dfa{Next: make([][]int, n), Rule: make([]int, n)}
	for i, row := range d.Next {
		turned := slices.Clone(row)
		for at, to := range row {
			if to >= 0 {
				turned[at] = place[to]
			}
		}
		made.Next[place[i]], made.Rule[place[i]] = turned, d.Rule[i]
	}
	if i := r.Of(n); r.Of(2) == 0 && made.Rule[i] < 0 {
		made.Next[i][r.Of(len(made.Next[i]))] = r.Of(n+1) - 1
	}
	return made
}

// P16.1, P16.2: automata of chance.
func TestChance(t *testing.T) {
	r := sample.Roll(197)
	alike, unlike, fewer := 0, 0, 0
	for range 6000 {
		d := some(&r)
		one := isLeast(t, d)
		tellsTheSame(t, d, one, 3)
		if len(one.Next) > 3 && len(one.Next) < len(d.Next) {
			fewer++
		}
		e := other(&r, d)
		two := isLeast(t, e)
		got := mini.Same(d, e)
		if got != isSame(d, e) || got != same(one, two) || got != mini.Same(e, d) || got != mini.Same(one, e) {
			t.Fatalf("%v, %v: %v", d, e, got)
		}
		if got {
			alike++
		} else {
			unlike++
		}
	}
	if alike < 2000 || unlike < 500 || fewer < 500 {
		t.Errorf("%d alike, %d unlike, %d of fewer states", alike, unlike, fewer)
	}
}

// tellsTheSame tells a fault if two automata don't tell the same of all words of up to so many terminals, with what is none among them.
func tellsTheSame(t *testing.T, a, b dfa.Dfa, most int) {
	t.Helper()
	for n := range most + 1 {
		each(n, -1, len(a.Next[0])+1, func(rest []int) {
			rule, steps := a.Run(rest)
			if other, count := b.Run(rest); rule != other || steps != count {
				t.Fatalf("%v, %v: %v: %d, %d, and %d, %d", a, b, rest, rule, steps, other, count)
			}
		})
	}
}

// P16.2: the automata of grammars tell the same of all words when they have as few states as may be.
func TestGrammars(t *testing.T) {
	r := sample.Roll(199)
	built, fewer := 0, 0
	for range 8000 {
		g := r.Useful()
		for v := range g.Vars {
			d, ok := dfa.Build(g, v, 16, 400, 256)
			if !ok {
				continue
			}
			if !isRight(d) || !mini.Right(d) {
				t.Fatalf("%s%d: %v", gram.Print(g), v, d)
			}
			one := isLeast(t, d)
			tellsTheSame(t, d, one, 4)
			for range 20 {
				rest := make([]int, 5+r.Of(20))
				for i := range rest {
					rest[i] = r.Of(len(g.Terms) + 1)
				}
				rule, n := d.Run(rest)
				if other, count := one.Run(rest); rule != other || n != count {
					t.Fatalf("%s%d: %v: %d, %d, and %d, %d", gram.Print(g), v, rest, rule, n, other, count)
				}
			}
			built++
			if len(one.Next) < len(d.Next) {
				fewer++
			}
		}
	}
	if built < 4000 || fewer < 4 {
		t.Errorf("%d automata, %d of fewer states", built, fewer)
	}
}
