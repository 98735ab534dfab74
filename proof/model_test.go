package proof_test

import (
	"math"
	"slices"
	"testing"

	"accidence/api"
	"accidence/deriv"
	"accidence/gram"
	"accidence/proof"
	"accidence/sample"
	"accidence/strs"
	"accidence/table"
	"accidence/useful"
)

// goThrough asks for proofs of clashes that there aren't.
func goThrough(g api.Grammar, a, b int) {
	for _, k := range sample.Wild() {
		for _, look := range [][]int{nil, {0}, {b}, {a, b}, {0, a, 0, 0}, {0, 0, 0, 0, 0}} {
			proof.Of(g, k, []table.Clash{{Var: a, A: b, B: a, Look: look}}, 3000)
			proof.Of(g, k, []table.Clash{{Var: 0, A: 0, B: 1, Look: look}}, 3000)
			proof.Of(g, k, []table.Clash{{Var: b, A: 0, B: a, Look: look}, {Var: 0, A: 1, B: 2, Look: look}}, a)
		}
	}
}

// moment is a step of a derivation: which rule it is by, and what comes next there.
type moment struct {
	rule int
	rest []int
}

// moments is all steps of a derivation of a word from the start; none, if it is none. It goes by forms alone.
func moments(g api.Grammar, rules []int) []moment {
	if len(rules) > api.MaxSteps {
		return nil
	}
	var list []moment
	var passed []int
	form := []int{0}
	for _, rule := range rules {
		at := slices.IndexFunc(form, func(s int) bool { return s >= 0 })
		if at < 0 || rule < 0 || rule >= len(g.Rules) || g.Rules[rule].Left != form[at] {
			return nil
		}
		list, passed = append(list, moment{rule: rule}), append(passed, at)
		form = slices.Concat(form[:at], g.Rules[rule].Right, form[at+1:])
	}
	if slices.ContainsFunc(form, func(s int) bool { return s >= 0 }) {
		return nil
	}
	for i, at := range passed {
		for _, s := range form[at:] {
			list[i].rest = append(list[i].rest, ^s)
		}
	}
	return list
}

// shows tells whether a side shows that a rule is taken ahead of a lookahead of k terminals.
func shows(g api.Grammar, s proof.Side, rule, k int, look []int) bool {
	list := moments(g, s.Rules)
	if s.Cut < 0 || s.Cut >= len(list) || list[s.Cut].rule != rule {
		return false
	}
	rest := list[s.Cut].rest
	return slices.Equal(rest[:min(k, len(rest))], look)
}

// spoil turns some of a proof, or nothing.
func spoil(r *sample.Roll, p proof.Proof) proof.Proof {
	p = kept(p)
	s := &p.Sides[r.Of(2)]
	switch at := r.Of(len(s.Rules)); r.Of(16) {
	case 0:
		p.A = r.Of(9) - 1
	case 1:
		p.B = r.Of(9) - 1
	case 2:
		p.Var = r.Of(4) - 1
	case 3, 4:
		p.K = r.Of(7) - 1
	case 5:
		p.Look = append(p.Look, r.Of(4)-1)
	case 6:
		p.Look = p.Look[:len(p.Look)*r.Of(2)]
	case 7, 8:
		s.Cut = r.Of(len(s.Rules)+2) - 1
	case 9:
		s.Rules[at] = r.Of(9) - 1
	case 10:
		s.Rules = slices.Delete(s.Rules, at, at+1)
	case 11:
		s.Rules = slices.Insert(s.Rules, at, r.Of(6))
	case 12:
		p.A, p.B = p.B, p.A
	case 13:
		p.A, p.B = p.B, p.A
		p.Sides[0], p.Sides[1] = p.Sides[1], p.Sides[0]
	}
	return p
}

// P13.1: proofs of chance, some of which are spoiled, show what they say just if their forms do.
func TestProofsOfChance(t *testing.T) {
	r := sample.Roll(127)
	by := map[api.Errno]int{}
	for range 6000 {
		g, k := r.Useful(), 1+r.Of(api.MaxK)
		for _, p := range prove(t, g, k, api.MaxBudget) {
			p = spoil(&r, p)
			fine := p.K >= 1 && p.A != p.B
			for i, rule := range [2]int{p.A, p.B} {
				fine = fine && rule >= 0 && rule < len(g.Rules) && g.Rules[rule].Left == p.Var && shows(g, p.Sides[i], rule, p.K, p.Look)
			}
			got := proof.Check(g, p)
			if (got == api.OK) != fine {
				t.Fatalf("%s%v: %d, does it show it: %v", gram.Print(g), p, got, fine)
			}
			by[got]++
		}
	}
	for _, e := range []api.Errno{api.OK, api.ErrRule, api.ErrEnd, api.ErrVar, api.ErrLook} {
		if by[e] < 100 {
			t.Errorf("%d: %d only", e, by[e])
		}
	}
}

// seen is where each rule is taken ahead of each lookahead, by the fewest steps that were found.
type seen map[int]map[string]proof.Side

// note notes all steps of a derivation.
func (n seen) note(g api.Grammar, k int, rules []int) {
	for cut, m := range moments(g, rules) {
		look := text(strs.Cut(m.rest, k))
		if n[m.rule] == nil {
			n[m.rule] = map[string]proof.Side{}
		}
		if own, known := n[m.rule][look]; !known || len(rules) < len(own.Rules) {
			n[m.rule][look] = proof.Side{Rules: slices.Clone(rules), Cut: cut}
		}
	}
}

// text is a word as text.
func text(word []int) string {
	one := make([]byte, len(word))
	for i, n := range word {
		one[i] = byte(n)
	}
	return string(one)
}

// word is the word of a text.
func word(one string) []int {
	list := make([]int, len(one))
	for i := range list {
		list[i] = int(one[i])
	}
	return list
}

// P13.2: what shows itself is so: both rules are meant by the lookahead, and clash.
func TestShownClashes(t *testing.T) {
	r := sample.Roll(131)
	n, long := 0, 0
	for range 1500 {
		g, k := r.Useful(), 1+r.Of(api.MaxK)
		all := seen{}
		for range 8 {
			all.note(g, k, r.Derivation(g, []int{0}))
		}
		clashes := clashesOf(t, g, k)
		for a, looks := range all {
			for b, others := range all {
				if a == b || g.Rules[a].Left != g.Rules[b].Left {
					continue
				}
				for look, one := range looks {
					other, both := others[look]
					if !both {
						continue
					}
					p := proof.Proof{Var: g.Rules[a].Left, A: a, B: b, K: k, Look: word(look), Sides: [2]proof.Side{one, other}}
					if e := proof.Check(g, p); e != api.OK {
						t.Fatalf("%s%v: %d", gram.Print(g), p, e)
					}
					at := slices.IndexFunc(clashes, func(c table.Clash) bool { return c.A == min(a, b) && c.B == max(a, b) })
					if at < 0 || strs.Compare(clashes[at].Look, p.Look) > 0 {
						t.Fatalf("%s%v is shown, but there are %v", gram.Print(g), p, clashes)
					}
					n++
					if len(look) > 2 {
						long++
					}
				}
			}
		}
	}
	if n < 5000 || long < 500 {
		t.Errorf("%d clashes, %d by long lookaheads", n, long)
	}
}

// all notes all derivations of a word from a form of up to so many steps, those that were done too.
func (n seen) all(g api.Grammar, k, most int, form, done []int) {
	vars := 0
	for _, s := range form {
		if s >= 0 {
			vars++
		}
	}
	if vars == 0 {
		n.note(g, k, done)
	}
	_, at := deriv.Lead(form)
	if at < 0 || len(done)+vars > most {
		return
	}
	from, to := gram.Rules(g, form[at])
	for rule := from; rule < to; rule++ {
		n.all(g, k, most, slices.Concat(form[:at], g.Rules[rule].Right, form[at+1:]), append(done, rule))
	}
}

// P13.1: a side has as few steps as may be, so that it is of too many only if all are.
func TestFewestSteps(t *testing.T) {
	const most = 7
	r := sample.Roll(137)
	few, far := 0, 0
	for range 1200 {
		g, k := r.Useful(), 1+r.Of(api.MaxK)
		proofs := prove(t, g, k, api.MaxBudget)
		if len(proofs) == 0 {
			continue
		}
		all := seen{}
		all.all(g, k, most, []int{0}, nil)
		for _, p := range proofs {
			for i, rule := range [2]int{p.A, p.B} {
				own, known := all[rule][text(p.Look)]
				if known && len(p.Sides[i].Rules) != len(own.Rules) || !known && len(p.Sides[i].Rules) <= most {
					t.Fatalf("%s%v, but %v", gram.Print(g), p, own)
				}
				if known {
					few++
				} else {
					far++
				}
			}
		}
	}
	if few < 2500 || far < 250 {
		t.Errorf("%d of few steps, %d of more", few, far)
	}
}

// small is what is of use of a right grammar of up to 4 variables, 4 terminals, and 8 rules of up to 3 symbols.
func small(r *sample.Roll) api.Grammar {
	for {
		g := api.Grammar{Terms: []string{"a", "b", "c", "d"}[:r.Of(5)], Vars: []string{"s", "t", "u", "v"}[:1+r.Of(4)]}
		rules := 8 - r.Of(3)
		for i := range rules {
			right := make([]int, r.Of(4))
			for at := range right {
				right[at] = r.Symbol(g)
			}
			g.Rules = append(g.Rules, api.Rule{Left: i * len(g.Vars) / rules, Right: right})
		}
		if !gram.Right(g) {
			continue
		}
		if less, _, ok := useful.Reduce(g); ok {
			return less
		}
	}
}

// P13.1: the greatest budget is enough for all clashes of small grammars, and so is a far smaller one.
func TestEnough(t *testing.T) {
	r := sample.Roll(139)
	n := 0
	for range 4000 {
		g := small(&r)
		for k := 1; k <= 2; k++ {
			n += len(prove(t, g, k, 20000))
			n += len(prove(t, g, k, math.MaxInt))
		}
	}
	if n < 10000 {
		t.Errorf("%d proofs", n)
	}
}
