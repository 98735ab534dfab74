package left_test

import (
	"slices"
	"testing"

	"accidence/api"
	"accidence/deriv"
	"accidence/gram"
	"accidence/left"
	"accidence/sample"
	"accidence/strs"
	"accidence/useful"
)

// spots is with which variables each one may begin, by going through the places of rules: from the beginning of a rule one goes on behind a variable only if that vanishes.
func spots(g api.Grammar) []map[int]bool {
	empty := useful.Nullable(g)
	all := make([]map[int]bool, len(g.Vars))
	for v := range g.Vars {
		all[v] = map[int]bool{}
		type spot struct{ rule, dot int }
		known := map[spot]bool{}
		var enter func(v int)
		var visit func(p spot)
		visit = func(p spot) {
			right := g.Rules[p.rule].Right
			if known[p] || p.dot == len(right) || right[p.dot] < 0 {
				return
			}
			known[p] = true
			s := right[p.dot]
			all[v][s] = true
			enter(s)
			if empty[s] {
				visit(spot{p.rule, p.dot + 1})
			}
		}
		enter = func(v int) {
			from, to := gram.Rules(g, v)
			for rule := from; rule < to; rule++ {
				visit(spot{rule, 0})
			}
		}
		enter(v)
	}
	return all
}

// asTold tells a fault if the answers aren't those of the places of rules, and is how many variables may begin with themselves, and in how many groups of more than one.
func asTold(t *testing.T, g api.Grammar) (may, rounds int) {
	t.Helper()
	all := spots(g)
	var list [][]int
	for v := range g.Vars {
		if !all[v][v] {
			continue
		}
		may++
		var group []int
		for w := range g.Vars {
			if all[v][w] && all[w][v] {
				group = append(group, w)
			}
		}
		if group[0] == v {
			list = append(list, group)
			if len(group) > 1 {
				rounds++
			}
		}
	}
	if got := left.Groups(g); !slices.EqualFunc(got, list, slices.Equal[[]int]) {
		t.Fatalf("%s%v, want %v", gram.Print(g), got, list)
	}
	marks := left.Recursive(g)
	if len(marks) != len(g.Vars) {
		t.Fatalf("%s%v", gram.Print(g), marks)
	}
	for v, mark := range marks {
		if mark != all[v][v] {
			t.Fatalf("%s%d: %v", gram.Print(g), v, mark)
		}
	}
	return may, rounds
}

// starts is the first symbols of forms that a variable becomes by one step or more, as long as the forms are short and few; and by how few steps one comes to one that begins with the variable itself, or 0.
func starts(g api.Grammar, v int) (map[int]bool, int) {
	const long, many = 12, 4000
	first, least := map[int]bool{}, 0
	known := strs.Of()
	for list, steps := [][]int{{v}}, 1; len(list) > 0; steps++ {
		var next [][]int
		for _, form := range list {
			lead, at := deriv.Lead(form)
			if at < 0 || len(lead) > 0 {
				continue
			}
			from, to := gram.Rules(g, form[at])
			for rule := from; rule < to; rule++ {
				behind, _ := deriv.Step(g, form, rule)
				if len(behind) == 0 || len(behind) > long || known.Len() > many || !known.Add(behind) {
					continue
				}
				next = append(next, behind)
				first[behind[0]] = true
				if behind[0] == v && least == 0 {
					least = steps
				}
			}
		}
		list = next
	}
	return first, least
}

// P11.1, P11.2: who may begin with whom is just what forms show; and who does so by itself has a derivation that shows it, of as few steps as may be.
func TestForms(t *testing.T) {
	r := sample.Roll(67)
	may, more, long := 0, 0, 0
	for range 3000 {
		g := r.Grammar()
		own, rounds := asTold(t, g)
		may, more = may+own, more+rounds
		all := spots(g)
		for v := range g.Vars {
			first, least := starts(g, v)
			for w := range g.Vars {
				if first[w] != all[v][w] {
					t.Fatalf("%s%d begins with %d: %v", gram.Print(g), v, w, first[w])
				}
			}
			rules, ok := left.Cycle(g, v)
			if ok != all[v][v] || len(rules) != least {
				t.Fatalf("%s%d: %v, %v, but there are %d steps", gram.Print(g), v, rules, ok, least)
			}
			if ok && !left.Check(g, v, rules) {
				t.Fatalf("%s%d: %v doesn't show it", gram.Print(g), v, rules)
			}
			long = max(long, len(rules))
		}
	}
	if may < 2000 || more < 300 || long < 6 {
		t.Errorf("%d variables may, %d groups, %d steps at most", may, more, long)
	}
}

// P11.1, P11.2: great grammars, some of whose variables lead nowhere.
func TestGreat(t *testing.T) {
	r := sample.Roll(71)
	may, more, far := 0, 0, 0
	for range 500 {
		g := r.Great()
		own, rounds := asTold(t, g)
		may, more = may+own, more+rounds
		for v, mark := range left.Recursive(g) {
			rules, ok := left.Cycle(g, v)
			if ok && !mark || ok != left.Check(g, v, rules) {
				t.Fatalf("%s%d: %v, %v, may it: %v", gram.Print(g), v, rules, ok, mark)
			}
			if form, _, e := deriv.Replay(g, []int{v}, rules); ok && (e != api.OK || form[0] != v) {
				t.Fatalf("%s%d: %v, %v", gram.Print(g), v, rules, form)
			}
			if mark && !ok {
				far++
			}
		}
	}
	if may < 2000 || more < 200 || far > may/100 {
		t.Errorf("%d variables may, %d groups, %d by too many steps", may, more, far)
	}
}

// P11.1: Check is Replay, and where it comes to.
func TestCheckAsTold(t *testing.T) {
	r := sample.Roll(73)
	fine := 0
	for range 60000 {
		g := r.Grammar()
		v := r.Of(len(g.Vars)+2) - 1
		var rules []int
		form := []int{v}
		for range r.Of(6) {
			rule := r.Of(len(g.Rules)+2) - 1
			if _, at := deriv.Lead(form); at >= 0 && form[at] < len(g.Vars) && r.Of(12) > 0 {
				from, to := gram.Rules(g, form[at])
				rule = from + r.Of(to-from)
			}
			rules = append(rules, rule)
			form, _ = deriv.Step(g, form, rule)
		}
		last, _, e := deriv.Replay(g, []int{v}, rules)
		want := e == api.OK && len(rules) > 0 && len(last) > 0 && last[0] == v
		if got := left.Check(g, v, rules); got != want {
			t.Fatalf("%s%d by %v: %v, but %v, %d", gram.Print(g), v, rules, got, last, e)
		}
		if want {
			fine++
		}
	}
	if fine < 2000 {
		t.Errorf("%d only", fine)
	}
}
