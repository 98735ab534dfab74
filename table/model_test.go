package table_test

import (
	"slices"
	"testing"

	"accidence/api"
	"accidence/deriv"
	"accidence/gram"
	"accidence/sample"
	"accidence/strs"
	"accidence/table"
	"accidence/useful"
)

// pile is the rules that each lookahead of a variable means, with the words' numbers as bytes.
type pile map[string][]int

// bytes is a word as bytes.
func bytes(word []int) string {
	one := make([]byte, len(word))
	for i, n := range word {
		one[i] = byte(n)
	}
	return string(one)
}

// lay lays a rule where a lookahead is, if it isn't there.
func (p pile) lay(word []int, rule int) {
	if at := bytes(word); !slices.Contains(p[at], rule) {
		p[at] = append(p[at], rule)
		slices.Sort(p[at])
	}
}

// isPile tells a fault if all that is told of a variable isn't what a pile has; and is how many clashes it has.
func isPile(t *testing.T, g api.Grammar, made *table.Table, v int, p pile) int {
	t.Helper()
	rows, clear := made.Rows(v), true
	if len(rows) != len(p) {
		t.Fatalf("%s%d of %d: %d rows, want %d", gram.Print(g), made.K, v, len(rows), len(p))
	}
	for i, row := range rows {
		want := p[bytes(row.Look)]
		if !slices.Equal(row.Rules, want) || i > 0 && strs.Compare(rows[i-1].Look, row.Look) >= 0 {
			t.Fatalf("%s%d of %d: %v, want %v", gram.Print(g), made.K, v, row, want)
		}
		clear = clear && len(want) == 1
	}
	if made.Clear(v) != clear {
		t.Fatalf("%s%d of %d: is it clear: %v", gram.Print(g), made.K, v, made.Clear(v))
	}
	own := made.Clashes()
	own = slices.DeleteFunc(own, func(c table.Clash) bool { return c.Var != v })
	n := 0
	from, to := gram.Rules(g, v)
	for a := from; a < to; a++ {
		for b := a + 1; b < to; b++ {
			at := slices.IndexFunc(rows, func(row table.Row) bool { return slices.Contains(row.Rules, a) && slices.Contains(row.Rules, b) })
			if at < 0 {
				continue
			}
			if n == len(own) || own[n].A != a || own[n].B != b || !slices.Equal(own[n].Look, rows[at].Look) {
				t.Fatalf("%s%d of %d: %v, but %d and %d clash by %v", gram.Print(g), made.K, v, own, a, b, rows[at].Look)
			}
			n++
		}
	}
	if n != len(own) {
		t.Fatalf("%s%d of %d: %d clashes, want %d", gram.Print(g), made.K, v, len(own), n)
	}
	return n
}

// isFound tells a fault if what is found isn't what a pile has, of words of chance, and of all up to so long.
func isFound(t *testing.T, r *sample.Roll, g api.Grammar, made *table.Table, v int, p pile) {
	t.Helper()
	list := [][]int{nil}
	for i := 0; i < len(list) && len(list) < 500; i++ {
		for n := range len(g.Terms) {
			list = append(list, append(slices.Clone(list[i]), n))
		}
	}
	for range 20 {
		word := make([]int, r.Of(8))
		for i := range word {
			word[i] = r.Of(len(g.Terms)+2) - 1
		}
		list = append(list, word)
	}
	for _, word := range list {
		if got, want := made.Find(v, word), p[bytes(strs.Cut(word, made.K))]; !slices.Equal(got, want) {
			t.Fatalf("%s%d of %d: %v means %v, want %v", gram.Print(g), made.K, v, word, got, want)
		}
	}
}

// isAsTold tells a fault if a table isn't what the sets' Look says; and is how many clashes there are.
func isAsTold(t *testing.T, r *sample.Roll, g api.Grammar, k int) int {
	t.Helper()
	made, s := tableOf(t, g, k)
	n := 0
	for v := range g.Vars {
		p := pile{}
		from, to := gram.Rules(g, v)
		for rule := from; rule < to; rule++ {
			for _, word := range s.Look(rule).All() {
				p.lay(word, rule)
			}
		}
		n += isPile(t, g, made, v, p)
		isFound(t, r, g, made, v, p)
	}
	if len(made.Clashes()) != n || !slices.IsSortedFunc(made.Clashes(), func(x, y table.Clash) int { return x.Var - y.Var }) {
		t.Fatalf("%s%d: %v", gram.Print(g), k, made.Clashes())
	}
	return n
}

// P12.1: tables of grammars of chance.
func TestTablesAsTold(t *testing.T) {
	r := sample.Roll(89)
	clashes, none := 0, 0
	for range 1500 {
		g := r.Useful()
		for k := 1; k <= api.MaxK; k++ {
			n := isAsTold(t, &r, g, k)
			clashes += n
			if n == 0 {
				none++
			}
		}
	}
	if clashes < 5000 || none < 500 {
		t.Errorf("%d clashes, %d tables without", clashes, none)
	}
	great := 0
	for range 120 {
		if g, _, ok := useful.Reduce(r.Great()); ok && len(g.Vars) > 9 {
			isAsTold(t, &r, g, 1)
			isAsTold(t, &r, g, 2)
			great++
		}
	}
	if great < 15 {
		t.Errorf("%d great grammars", great)
	}
}

// words is all words that a form becomes, of a grammar that has but so many.
func words(g api.Grammar, form []int) [][]int {
	var list [][]int
	for _, form := range sample.Forms(g, form) {
		if word, at := deriv.Lead(form); at < 0 {
			list = append(list, word)
		}
	}
	return list
}

// P12.1, P4: of a grammar whose forms are few, a lookahead means just those rules which derivations take ahead of it.
func TestAllDerivations(t *testing.T) {
	r := sample.Roll(97)
	fine, clashes := 0, 0
	for range 4000 {
		g := r.Finite()
		all := sample.Forms(g, []int{0})
		if len(all) == 0 || len(all) > 150 {
			continue
		}
		fine++
		for k := 1; k <= api.MaxK; k++ {
			piles := make([]pile, len(g.Vars))
			for v := range piles {
				piles[v] = pile{}
			}
			for _, form := range all {
				_, at := deriv.Lead(form)
				if at < 0 {
					continue
				}
				from, to := gram.Rules(g, form[at])
				for rule := from; rule < to; rule++ {
					for _, word := range words(g, slices.Concat(g.Rules[rule].Right, form[at+1:])) {
						piles[form[at]].lay(strs.Cut(word, k), rule)
					}
				}
			}
			made, _ := tableOf(t, g, k)
			for v, p := range piles {
				clashes += isPile(t, g, made, v, p)
			}
		}
	}
	if fine < 1500 || clashes < 1000 {
		t.Errorf("%d grammars, %d clashes", fine, clashes)
	}
}

// goAlong goes along a derivation of chance, and tells a fault if what comes next doesn't mean its rule, or, where that means but one, it would be another one. It is how many steps there are, and how many of them are told by what comes next alone.
func goAlong(t *testing.T, r *sample.Roll, g api.Grammar, made *table.Table) (steps, told int) {
	t.Helper()
	rules := r.Derivation(g, []int{0})
	all, e := deriv.Yield(g, []int{0}, rules)
	if e != api.OK {
		t.Fatalf("%s%v: %d", gram.Print(g), rules, e)
	}
	form := []int{0}
	for _, rule := range rules {
		passed, at := deriv.Lead(form)
		rest := all[len(passed):]
		meant := made.Find(form[at], rest)
		if !slices.Contains(meant, rule) || !slices.IsSorted(meant) {
			t.Fatalf("%s%d: ahead of %v %d is taken, but it means %v", gram.Print(g), made.K, rest, rule, meant)
		}
		if made.Clear(form[at]) && len(meant) != 1 {
			t.Fatalf("%s%d: %d is clear, but %v means %v", gram.Print(g), made.K, form[at], rest, meant)
		}
		if len(meant) == 1 {
			told++
		}
		form, _ = deriv.Step(g, form, rule)
		steps++
	}
	return steps, told
}

// P12.2: at each step of a derivation what comes next means its rule.
func TestDerivations(t *testing.T) {
	r := sample.Roll(101)
	steps, told := 0, 0
	for range 4000 {
		g := r.Useful()
		made, _ := tableOf(t, g, 1+r.Of(api.MaxK))
		for range 5 {
			n, m := goAlong(t, &r, g, made)
			steps, told = steps+n, told+m
		}
	}
	if steps < 50000 || told < 10000 {
		t.Errorf("%d steps, %d told", steps, told)
	}
	for range 200 {
		if g, _, ok := useful.Reduce(r.Great()); ok && len(g.Vars) > 5 {
			for k := 1; k <= 2; k++ {
				made, _ := tableOf(t, g, k)
				goAlong(t, &r, g, made)
			}
		}
	}
}

// P12.2: of a table without clashes a derivation is found again by what comes next alone.
func TestFoundAgain(t *testing.T) {
	r := sample.Roll(103)
	fine := 0
	for range 20000 {
		g := r.Useful()
		made, _ := tableOf(t, g, 1+r.Of(api.MaxK))
		if len(made.Clashes()) > 0 {
			continue
		}
		rules := r.Derivation(g, []int{0})
		all, _ := deriv.Yield(g, []int{0}, rules)
		var again []int
		for form := []int{0}; len(again) <= len(rules); {
			passed, at := deriv.Lead(form)
			if at < 0 {
				break
			}
			meant := made.Find(form[at], all[len(passed):])
			if len(meant) != 1 {
				t.Fatalf("%s%d: %v, ahead of %v", gram.Print(g), made.K, meant, all[len(passed):])
			}
			again = append(again, meant[0])
			form, _ = deriv.Step(g, form, meant[0])
		}
		if !slices.Equal(again, rules) {
			t.Fatalf("%s%d: %v, found again as %v", gram.Print(g), made.K, rules, again)
		}
		if len(rules) > 2 {
			fine++
		}
	}
	if fine < 250 {
		t.Errorf("%d only", fine)
	}
}
