package atn_test

import (
	"math"
	"slices"
	"testing"

	"accidence/api"
	"accidence/atn"
	"accidence/deriv"
	"accidence/gram"
	"accidence/sample"
	"accidence/table"
)

// steps is all configurations to which one goes on from another one, told by the grammar alone.
func steps(g api.Grammar, x atn.Config) []atn.Config {
	if x.Spot.Rule < 0 {
		return nil
	}
	var list []atn.Config
	r := g.Rules[x.Spot.Rule]
	if x.Spot.Dot < len(r.Right) {
		behind := atn.Spot{Rule: x.Spot.Rule, Dot: x.Spot.Dot + 1}
		for i, other := range g.Rules {
			if other.Left != r.Right[x.Spot.Dot] {
				continue
			}
			stack := slices.Clone(x.Stack)
			if behind.Dot < len(r.Right) || len(stack) == 0 {
				stack = append(stack, behind)
			}
			list = append(list, atn.Config{Alt: x.Alt, Spot: atn.Spot{Rule: i}, Stack: stack})
		}
		return list
	}
	if n := len(x.Stack); n > 0 {
		return []atn.Config{{Alt: x.Alt, Spot: x.Stack[n-1], Stack: x.Stack[:n-1]}}
	}
	for i, other := range g.Rules {
		for at, s := range other.Right {
			if s == r.Left {
				list = append(list, atn.Config{Alt: x.Alt, Spot: atn.Spot{Rule: i, Dot: at + 1}})
			}
		}
	}
	if r.Left == 0 {
		list = append(list, atn.Config{Alt: x.Alt, Spot: atn.Spot{Rule: -1}})
	}
	return list
}

// stands tells whether a configuration stands ahead of a terminal, or at the end.
func stands(g api.Grammar, x atn.Config) bool {
	if x.Spot.Rule < 0 {
		return true
	}
	right := g.Rules[x.Spot.Rule].Right
	return x.Spot.Dot < len(right) && right[x.Spot.Dot] < 0
}

// closure is all configurations that are gone to, those that stand ahead of a terminal, or at the end, as text, how many there are in all, and how deep the deepest one is; false: there are more than may be, or one is far deeper than a grammar of chance leads to an end.
func closure(g api.Grammar, list []atn.Config, most int) (told string, all, deep int, ok bool) {
	known := map[string]bool{}
	var found []atn.Config
	for todo := slices.Clone(list); len(todo) > 0; {
		x := todo[len(todo)-1]
		todo = todo[:len(todo)-1]
		if known[config(x)] {
			continue
		}
		known[config(x)] = true
		deep = max(deep, len(x.Stack))
		if len(known) > most || deep > 80 {
			return "", 0, 0, false
		}
		if stands(g, x) {
			found = append(found, x)
		} else {
			todo = append(todo, steps(g, x)...)
		}
	}
	slices.SortFunc(found, atn.Compare)
	return configs(found), len(known), deep, true
}

// some is configurations of a grammar of chance, of which one may go back to places behind variables.
func some(r *sample.Roll, g api.Grammar) []atn.Config {
	var behind []atn.Spot
	for i, rule := range g.Rules {
		for at, s := range rule.Right {
			if s >= 0 {
				behind = append(behind, atn.Spot{Rule: i, Dot: at + 1})
			}
		}
	}
	list := make([]atn.Config, r.Of(4))
	for i := range list {
		rule := r.Of(len(g.Rules))
		list[i] = atn.Config{Alt: r.Of(3), Spot: atn.Spot{Rule: rule, Dot: r.Of(len(g.Rules[rule].Right) + 1)}}
		for n := r.Of(4); n > 0 && len(behind) > 0; n-- {
			list[i].Stack = append(list[i].Stack, behind[r.Of(len(behind))])
		}
		if r.Of(12) == 0 {
			list[i] = atn.Config{Alt: r.Of(3), Spot: atn.Spot{Rule: -1}}
		}
	}
	return list
}

// isClosed tells a fault if what a Close answers isn't what is gone to by single steps, of all limits that are near to where it ends; and is whether it ends by so many. Of a small grammar whatever goes on beyond has no end.
func isClosed(t *testing.T, g api.Grammar, n *atn.Net, list []atn.Config, most int) bool {
	t.Helper()
	told, all, deep, ok := closure(g, list, most)
	limits := [][2]int{{math.MaxInt, math.MaxInt}, {deep, all}, {deep, math.MaxInt}, {math.MaxInt, all}, {deep + 1, all + 1}, {deep - 1, all}, {deep, all - 1}, {deep - 1, math.MaxInt}, {math.MaxInt, all - 1}}
	if !ok {
		limits = [][2]int{{80, most}, {40, most}, {5, most / 9}}
	}
	if !ok && len(g.Vars) <= 4 {
		limits = append(limits, [2]int{math.MaxInt, math.MaxInt}, [2]int{1 << 40, 1 << 40}, [2]int{40, math.MaxInt})
	}
	for _, limit := range limits {
		got, fine := n.Close(list, limit[0], limit[1])
		want := ok && (limit[0] >= deep || all == 0) && limit[1] >= all
		if fine != want || !fine && len(got) > 0 || fine && configs(got) != told {
			t.Fatalf("%s%s: %v: %s, %v, want %s, %v: %d, %d", gram.Print(g), configs(list), limit, configs(got), fine, told, want, all, deep)
		}
		for _, x := range got {
			if next := n.Next(x); next == -2 || (next == api.End) != (x.Spot.Rule < 0) {
				t.Fatalf("%s%s: %d", gram.Print(g), config(x), next)
			}
		}
	}
	return ok
}

// P14.1: closures of grammars of chance, of some configurations, and of what those are behind terminals.
func TestClosuresOfChance(t *testing.T) {
	r := sample.Roll(149)
	ends, none := 0, 0
	for range 800 {
		g := r.Useful()
		n := atn.New(g)
		for v := range g.Vars {
			list := n.Start(v)
			for range 4 {
				if !isClosed(t, g, n, list, 3000) {
					none++
					break
				}
				ends++
				list, _ = n.Close(list, math.MaxInt, math.MaxInt)
				list = n.Move(list, r.Of(len(g.Terms)+1))
			}
		}
		for range 3 {
			if isClosed(t, g, n, some(&r, g), 3000) {
				ends++
			} else {
				none++
			}
		}
	}
	if ends < 3000 || none < 800 {
		t.Errorf("%d closures, %d without end", ends, none)
	}
}

// atEnd is those of some configurations that are at the end.
func atEnd(list []atn.Config) []atn.Config {
	return slices.DeleteFunc(slices.Clone(list), func(x atn.Config) bool { return x.Spot.Rule >= 0 })
}

// isMeant goes on from some configurations behind some terminals by each one, and tells a fault if the Alts aren't the rules which these terminals mean, or of those at the end not those which they mean if nothing else comes. It is how many Alts there were.
func isMeant(t *testing.T, g api.Grammar, n *atn.Net, made []*table.Table, v int, list []atn.Config, word []int) int {
	t.Helper()
	closed, ok := n.Close(list, 40, 3000)
	if !ok {
		return 0
	}
	alts := atn.Alts(closed)
	count := len(alts)
	if k := len(word); k > 0 && !slices.Equal(alts, made[k].Find(v, word)) {
		t.Fatalf("%s%d: behind %v are %v, but it means %v", gram.Print(g), v, word, alts, made[k].Find(v, word))
	}
	if len(word) == api.MaxK {
		return count
	}
	if ends, want := atn.Alts(atEnd(closed)), made[len(word)+1].Find(v, word); !slices.Equal(ends, want) {
		t.Fatalf("%s%d: at the end behind %v are %v, but it means %v", gram.Print(g), v, word, ends, want)
	}
	for next := range g.Terms {
		if moved := n.Move(closed, next); len(moved) > 0 {
			count += isMeant(t, g, n, made, v, moved, append(slices.Clone(word), next))
		} else if rules := made[len(word)+1].Find(v, append(slices.Clone(word), next)); len(rules) > 0 {
			t.Fatalf("%s%d: nothing is behind %v and %d, but it means %v", gram.Print(g), v, word, next, rules)
		}
	}
	return count
}

// P14.2: behind some terminals the Alts are the rules which these mean, and at the end those which the end behind them means.
func TestMeant(t *testing.T) {
	r := sample.Roll(151)
	n := 0
	for range 2000 {
		g := r.Useful()
		net, made := atn.New(g), sample.Tables(g)
		for v := range g.Vars {
			n += isMeant(t, g, net, made, v, net.Start(v), nil)
		}
	}
	if n < 15000 {
		t.Errorf("%d Alts", n)
	}
}

// goAlong goes along what comes next at a step of a derivation, and tells a fault if its rule doesn't stay among the Alts, up to the end. It is how many terminals were gone through; ok tells whether the end was come to.
func goAlong(t *testing.T, g api.Grammar, n *atn.Net, v, rule int, rest []int) (passed int, ok bool) {
	t.Helper()
	list := n.Start(v)
	for at := 0; ; at++ {
		closed, ok := n.Close(list, api.MaxStack, 500)
		if !ok {
			return at, false
		}
		if !slices.Contains(atn.Alts(closed), rule) {
			t.Fatalf("%s%d of %v: behind %d are %s", gram.Print(g), rule, rest, at, configs(closed))
		}
		if at == len(rest) {
			if !slices.Contains(atn.Alts(atEnd(closed)), rule) {
				t.Fatalf("%s%d of %v: at the end are %s", gram.Print(g), rule, rest, configs(atEnd(closed)))
			}
			return at, true
		}
		list = n.Move(closed, rest[at])
	}
}

// P14.2: a derivation's rule stays among the Alts.
func TestDerivations(t *testing.T) {
	r := sample.Roll(157)
	passed, whole := 0, 0
	for range 3000 {
		g := r.Useful()
		n := atn.New(g)
		rules := r.Derivation(g, []int{0})
		word, e := deriv.Yield(g, []int{0}, rules)
		if e != api.OK {
			t.Fatalf("%s%v: %d", gram.Print(g), rules, e)
		}
		form := []int{0}
		for _, rule := range rules {
			lead, at := deriv.Lead(form)
			more, ok := goAlong(t, g, n, form[at], rule, word[len(lead):])
			passed += more
			if ok {
				whole++
			}
			form, _ = deriv.Step(g, form, rule)
		}
	}
	if passed < 4000 || whole < 2000 {
		t.Errorf("%d terminals, %d to the end", passed, whole)
	}
}

// P14.1: great grammars.
func TestGreatNets(t *testing.T) {
	r := sample.Roll(163)
	ends := 0
	for range 400 {
		g := r.Great()
		n := atn.New(g)
		for range 3 {
			if isClosed(t, g, n, some(&r, g), 300) {
				ends++
			}
		}
	}
	if ends < 300 {
		t.Errorf("%d closures", ends)
	}
}

// Rule 6: names and weights have no part in it, nor what was called ahead, nor in which order, or how often, something is handed in.
func TestSameAgain(t *testing.T) {
	r := sample.Roll(167)
	for range 500 {
		g := r.Useful()
		h := sample.Renamed(g)
		n, other := atn.New(g), atn.New(h)
		for range 4 {
			list := some(&r, g)
			back := slices.Concat(list, list)
			slices.Reverse(back)
			one, ok := n.Close(list, 6, 200)
			two, fine := other.Close(back, 6, 200)
			again, same := n.Close(list, 6, 200)
			if ok != fine || ok != same || configs(one) != configs(two) || configs(one) != configs(again) {
				t.Fatalf("%s%s: %s, %s, %s", gram.Print(g), configs(list), configs(one), configs(two), configs(again))
			}
		}
	}
}
