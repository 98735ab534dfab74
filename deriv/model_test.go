package deriv_test

import (
	"math"
	"slices"
	"testing"

	"accidence/api"
	"accidence/deriv"
	"accidence/gram"
	"accidence/sample"
)

// someForm is some symbols, most of them a grammar's.
func someForm(r *sample.Roll, g api.Grammar) []int {
	form := make([]int, r.Of(5))
	for i := range form {
		form[i] = r.Symbol(g)
		if r.Of(20) == 0 {
			form[i] = []int{64, -65, math.MaxInt, math.MinInt}[r.Of(4)]
		}
	}
	return form
}

// someRules is some steps, most of which can be done.
func someRules(r *sample.Roll, g api.Grammar, form []int) []int {
	var rules []int
	for range r.Of(12) {
		rule := r.Of(len(g.Rules)+2) - 1
		if v := first(form); v >= 0 && form[v] < len(g.Vars) && r.Of(16) > 0 {
			from, to := gram.Rules(g, form[v])
			rule = from + r.Of(to-from)
		}
		rules = append(rules, rule)
		form, _ = step(g, form, rule)
	}
	return rules
}

// first is the place of a form's first variable, or -1.
func first(form []int) int {
	for i, s := range form {
		if s >= 0 {
			return i
		}
	}
	return -1
}

// step is a step as the chapter tells it.
func step(g api.Grammar, form []int, rule int) ([]int, api.Errno) {
	if rule < 0 || rule > len(g.Rules)-1 {
		return nil, api.ErrRule
	}
	i := first(form)
	if i == -1 {
		return nil, api.ErrEnd
	}
	if form[i] != g.Rules[rule].Left {
		return nil, api.ErrVar
	}
	var next []int
	next = append(next, form[:i]...)
	next = append(next, g.Rules[rule].Right...)
	return append(next, form[i+1:]...), api.OK
}

// steps is step behind step.
func steps(g api.Grammar, form, rules []int) ([]int, int, api.Errno) {
	for i, rule := range rules {
		next, e := step(g, form, rule)
		if e != api.OK {
			return nil, i, e
		}
		form = next
	}
	return form, 0, api.OK
}

// P7.1: every call answers as step behind step does.
func TestAsTold(t *testing.T) {
	r := sample.Roll(7)
	seen := map[api.Errno]int{}
	for range 20000 {
		g := r.Grammar()
		form := someForm(&r, g)
		rules := someRules(&r, g, form)
		want, at, e := steps(g, form, rules)
		if got, gotAt, gotE := deriv.Replay(g, form, rules); !slices.Equal(got, want) || gotAt != at || gotE != e {
			t.Fatalf("Replay(%v, %v, %v): %v, %d, %d, want %v, %d, %d", g, form, rules, got, gotAt, gotE, want, at, e)
		}
		if len(rules) > 0 {
			next, e := step(g, form, rules[0])
			if got, gotE := deriv.Step(g, form, rules[0]); !slices.Equal(got, next) || gotE != e {
				t.Fatalf("Step(%v, %v, %d): %v, %d, want %v, %d", g, form, rules[0], got, gotE, next, e)
			}
		}
		isYield(t, g, form, rules, want, e)
		seen[e]++
	}
	if seen[api.OK] < 5000 || seen[api.ErrRule] < 500 || seen[api.ErrEnd] < 500 || seen[api.ErrVar] < 500 {
		t.Errorf("%v", seen)
	}
}

// isYield tells a fault if the word of a derivation is another one than that of the form behind it.
func isYield(t *testing.T, g api.Grammar, form, rules, last []int, e api.Errno) {
	t.Helper()
	var word []int
	for _, s := range last {
		if s >= 0 {
			word, e = nil, api.ErrEnd
			break
		}
		word = append(word, -s-1)
	}
	if got, gotE := deriv.Yield(g, form, rules); !slices.Equal(got, word) || gotE != e {
		t.Fatalf("Yield(%v, %v, %v): %v, %d, want %v, %d", g, form, rules, got, gotE, word, e)
	}
}

// P7.2: steps in two parts are as all of them.
func TestTwoParts(t *testing.T) {
	r := sample.Roll(3)
	fine := 0
	for range 20000 {
		g := r.Grammar()
		form := someForm(&r, g)
		rules := someRules(&r, g, form)
		cut := r.Of(len(rules) + 1)
		all, at, e := deriv.Replay(g, form, rules)
		half, halfAt, halfE := deriv.Replay(g, form, rules[:cut])
		if halfE != api.OK {
			if at != halfAt || e != halfE {
				t.Fatalf("%v, %v, %v: %d, %d, but %d, %d of %d", g, form, rules, at, e, halfAt, halfE, cut)
			}
			continue
		}
		rest, restAt, restE := deriv.Replay(g, half, rules[cut:])
		if restE != api.OK {
			restAt += cut
		}
		if !slices.Equal(rest, all) || restAt != at || restE != e {
			t.Fatalf("%v, %v, %v: %v, %d, %d, but %v, %d, %d from %d on", g, form, rules, all, at, e, rest, restAt, restE, cut)
		}
		fine++
	}
	if fine < 10000 {
		t.Errorf("%d only", fine)
	}
}

// P7.2: what stands behind stays, and turns no step.
func TestBehindStays(t *testing.T) {
	r := sample.Roll(11)
	fine := 0
	for range 20000 {
		g := r.Grammar()
		form, behind := someForm(&r, g), someForm(&r, g)
		rules := someRules(&r, g, form)
		alone, _, e := deriv.Replay(g, form, rules)
		if e != api.OK {
			continue
		}
		got, _, e := deriv.Replay(g, slices.Concat(form, behind), rules)
		if e != api.OK || !slices.Equal(got, slices.Concat(alone, behind)) {
			t.Fatalf("%v, %v ahead of %v, %v: %v, %d, want %v", g, form, behind, rules, got, e, alone)
		}
		fine++
	}
	if fine < 5000 {
		t.Errorf("%d only", fine)
	}
}

// Rule 4: answers are new memory, and what is handed in stays.
func TestNewMemory(t *testing.T) {
	g := pairs()
	was := gram.Print(g)
	room := []int{^0, 0, ^1, 0, 7, 7, 7}
	form, rules := room[:4], []int{2, 3}
	spoil := func(got []int) {
		for i := range got[:cap(got)] {
			got[:cap(got)][i] = 99
		}
		if !slices.Equal(room, []int{^0, 0, ^1, 0, 7, 7, 7}) || !slices.Equal(rules, []int{2, 3}) || gram.Print(g) != was {
			t.Fatalf("%v, %v, %v", room, rules, g)
		}
	}
	lead, _ := deriv.Lead(form)
	spoil(lead)
	next, _ := deriv.Step(g, form, 2)
	spoil(next)
	next, _ = deriv.Step(g, []int{0}, 0)
	spoil(next)
	all, _, _ := deriv.Replay(g, form, rules)
	spoil(all)
	all, _, _ = deriv.Replay(g, form, nil)
	spoil(all)
	word, _ := deriv.Yield(g, room[:1], nil)
	spoil(word)
}

// Rule 1: no call panics, whatever it is handed.
func TestNoPanic(t *testing.T) {
	wild := sample.Wild()
	for _, g := range []api.Grammar{{}, pairs(), {Rules: []api.Rule{{Left: -1}, {Left: math.MaxInt, Right: wild}}}} {
		for _, s := range wild {
			for _, rule := range wild {
				deriv.Lead([]int{s})
				deriv.Step(g, []int{s}, rule)
				deriv.Replay(g, []int{s, rule}, wild)
				deriv.Replay(g, wild, []int{rule, s})
				deriv.Yield(g, []int{s}, []int{rule})
				deriv.Weight(g, []int{s, rule})
			}
		}
	}
}
