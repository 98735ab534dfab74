package proof_test

import (
	"math"
	"slices"
	"strings"
	"testing"

	"accidence/api"
	"accidence/first"
	"accidence/gram"
	"accidence/proof"
	"accidence/sample"
	"accidence/table"
	"accidence/useful"
)

// clashesOf is the clashes of a grammar's table for k.
func clashesOf(t *testing.T, g api.Grammar, k int) []table.Clash {
	t.Helper()
	s, ok := first.Of(g, k, api.MaxBudget)
	if !ok {
		t.Fatalf("%s%d: no sets", gram.Print(g), k)
	}
	return table.Of(g, s).Clashes()
}

// isShown tells a fault if some proofs aren't those of some clashes, or don't show what they say.
func isShown(t *testing.T, g api.Grammar, k int, list []table.Clash, proofs []proof.Proof) {
	t.Helper()
	if len(proofs) != len(list) {
		t.Fatalf("%s%d: %d proofs of %d clashes", gram.Print(g), k, len(proofs), len(list))
	}
	for i, p := range proofs {
		c := list[i]
		if p.Var != c.Var || p.A != c.A || p.B != c.B || p.K != k || !slices.Equal(p.Look, c.Look) {
			t.Fatalf("%s%d: the clash %v, but the proof %v", gram.Print(g), k, c, p)
		}
		if e := proof.Check(g, p); e != api.OK {
			t.Fatalf("%s%d: %d of %v", gram.Print(g), k, e, p)
		}
	}
}

// prove is the proofs of all clashes of a grammar's table, which are found by a budget.
func prove(t *testing.T, g api.Grammar, k, budget int) []proof.Proof {
	t.Helper()
	list := clashesOf(t, g, k)
	proofs, ok := proof.Of(g, k, list, budget)
	if !ok {
		t.Fatalf("%s%d: no proofs of %v", gram.Print(g), k, list)
	}
	isShown(t, g, k, list, proofs)
	return proofs
}

// steps is how many steps the sides of proofs have.
func steps(proofs []proof.Proof) [][2]int {
	var list [][2]int
	for _, p := range proofs {
		list = append(list, [2]int{len(p.Sides[0].Rules), len(p.Sides[1].Rules)})
	}
	return list
}

// P13.1: of each clash a proof, by as few steps as may be.
func TestOf(t *testing.T) {
	for _, c := range []struct {
		text  string
		k     int
		steps [][2]int
	}{
		// The chapter's example.
		{"s = 'a' s | 'a' ;", 1, [][2]int{{2, 1}}}, {"s = 'a' s | 'a' ;", 2, nil},
		// The end.
		{"s = t | ; t = ;", 1, [][2]int{{2, 1}}}, {"s = t | ; t = ;", 4, [][2]int{{2, 1}}},
		// What stands ahead becomes a word by the fewest steps, though that isn't the shortest one.
		{"s = x t 'a' ; t = 'a' | ; x = y y | 'b' ; y = z z ; z = ;", 1, [][2]int{{3, 3}}},
		// So does what stands behind.
		{"s = t x 'c' ; t = 'a' | 'a' 'b' ; x = 'a' x | y | 'b' ; y = 'a' z ; z = 'b' ;", 1, [][2]int{{3, 3}, {4, 5}}},
		// An else that hangs.
		{"s = 'i' s e | 'x' ; e = 'e' s | ;", 1, [][2]int{{4, 6}}}, {"s = 'i' s e | 'x' ; e = 'e' s | ;", 2, [][2]int{{6, 8}}},
		// The variable stands elsewhere on either side.
		{"s = 'x' t | 'y' t 'a' ; t = 'a' | ;", 1, [][2]int{{2, 2}}}, {"s = 'x' t | 'y' t 'a' ; t = 'a' | ;", 2, [][2]int{{2, 2}}}, {"s = 'x' t | 'y' t 'a' ; t = 'a' | ;", 4, [][2]int{{2, 2}}},
		// Variables that begin with themselves.
		{"s = s 'a' s | 'b' ;", 3, [][2]int{{3, 3}}}, {"s = s 'a' | 'b' ;", 4, [][2]int{{2, 2}}},
		// Rules whose ways to the lookahead are unlike.
		{"s = x 'a' | y ; x = 'b' x | ; y = 'b' 'b' 'a' ;", 2, [][2]int{{4, 2}}},
		// More than one clash, some by one lookahead.
		{"s = t t ; t = 'a' | u ; u = 'a' | ;", 1, [][2]int{{3, 4}, {4, 4}}}, {"s = t t ; t = 'a' | u ; u = 'a' | ;", 2, [][2]int{{3, 4}, {4, 4}}}, {"s = t | u | v ; t = 'a' | 'b' ; u = 'b' ; v = t ;", 1, [][2]int{{2, 2}, {2, 3}, {2, 3}}},
	} {
		proofs := prove(t, sample.Load(c.text), c.k, api.MaxBudget)
		if got := steps(proofs); !slices.Equal(got, c.steps) {
			t.Errorf("%s %d: %v steps, want %v: %v", c.text, c.k, got, c.steps, proofs)
		}
	}
}

// twice is the grammar of a text behind which a variable v1 stands that becomes the empty word alone, by 2^n - 1 steps.
func twice(text string, n int) api.Grammar {
	var b strings.Builder
	b.WriteString(text)
	for v := 1; v < n; v++ {
		b.WriteString(" " + sample.Name(v) + " = " + sample.Name(v+1) + " " + sample.Name(v+1) + " ;")
	}
	b.WriteString(" " + sample.Name(n) + " = ;")
	return sample.Load(b.String())
}

// P13.1: there are proofs of up to as many steps as there may be, and none beyond, whether these go ahead of the rule, into it, or behind it.
func TestManySteps(t *testing.T) {
	for _, c := range []struct {
		text  string
		k     int
		steps [][2]int
	}{
		// v1 takes 2047 steps.
		{"s = t ; t = 'a' v1 v1 | 'a' ;", 1, [][2]int{{4096, 2}}}, {"s = u ; u = t ; t = 'a' v1 v1 | 'a' ;", 1, nil}, {"s = u ; u = t ; t = 'a' | 'a' v1 v1 ;", 1, nil},
		{"s = v1 v1 t ; t = 'a' | 'a' 'b' ;", 1, [][2]int{{4096, 4096}}}, {"s = u ; u = v1 v1 t ; t = 'a' | 'a' 'b' ;", 1, nil},
		{"s = t v1 v1 ; t = 'a' | 'a' 'b' ;", 1, [][2]int{{4096, 4096}}}, {"s = u ; u = t v1 v1 ; t = 'a' | 'a' 'b' ;", 1, nil},
		{"s = v1 t v1 ; t = 'a' | 'a' 'b' ;", 1, [][2]int{{4096, 4096}}}, {"s = v1 u ; u = t v1 ; t = 'a' | 'a' 'b' ;", 1, nil},
		{"s = v1 t ; t = 'a' v1 | 'a' ;", 1, [][2]int{{4096, 2049}}}, {"s = v1 u ; u = t ; t = 'a' v1 | 'a' ;", 1, nil},
		{"s = v1 v1 v1 v1 v1 v1 v1 v1 t ; t = 'a' | 'a' 'b' ;", 1, nil},
		// They aren't needed where something else is, be it longer.
		{"s = x x x t ; t = 'a' | 'a' 'b' ; x = v1 | 'b' ;", 1, [][2]int{{5, 5}}}, {"s = t x x x ; t = 'a' | 'a' 'b' ; x = v1 | 'b' ;", 1, [][2]int{{5, 5}}}, {"s = v1 v1 v1 t | t ; t = 'a' | 'a' 'b' ;", 1, [][2]int{{2, 2}}},
		// They are, where the word ends behind the lookahead.
		{"s = t x x ; t = | u ; u = ; x = v1 | 'b' ;", 1, nil}, {"s = t x x ; t = | u ; u = ; x = v1 | 'b' ;", 4, nil}, {"s = t x ; t = | u ; u = ; x = v1 | 'b' ;", 1, [][2]int{{2050, 2051}}}, {"s = t x ; t = | u ; u = ; x = v1 | 'b' ;", 4, [][2]int{{2050, 2051}}},
	} {
		g := twice(c.text, 11)
		list := clashesOf(t, g, c.k)
		list = slices.DeleteFunc(list, func(x table.Clash) bool { return g.Vars[x.Var] != "t" })
		if len(list) != 1 {
			t.Fatalf("%s %d: %v", c.text, c.k, list)
		}
		proofs, ok := proof.Of(g, c.k, list, api.MaxBudget)
		if ok != (len(c.steps) > 0) || !ok && len(proofs) > 0 {
			t.Errorf("%s %d: %v", c.text, c.k, ok)
		}
		if ok {
			isShown(t, g, c.k, list, proofs)
		}
		if got := steps(proofs); !slices.Equal(got, c.steps) {
			t.Errorf("%s %d: %v steps, want %v", c.text, c.k, got, c.steps)
		}
	}
}

// P13.1: of no clashes there are no proofs, by whatever budget; of some there are none without one.
func TestBudget(t *testing.T) {
	g := sample.Load("s = 'a' s t | 'a' ; t = 'b' | 'b' 'a' | ;")
	list := clashesOf(t, g, 1)
	for _, budget := range []int{math.MinInt, -1, 0, 1, api.MaxBudget, api.MaxBudget + 1, math.MaxInt} {
		if proofs, ok := proof.Of(g, 1, nil, budget); !ok || len(proofs) > 0 {
			t.Errorf("%d: %v, %v", budget, proofs, ok)
		}
		proofs, ok := proof.Of(g, 1, list, budget)
		if ok != (budget > 1) || !ok && len(proofs) > 0 {
			t.Errorf("%d: %v, %v", budget, proofs, ok)
		}
		if ok {
			isShown(t, g, 1, list, proofs)
		}
	}
}

// P13.1: the budget holds what is looked at, not alone what is told: of a great grammar a small one isn't enough for the shortest proof.
func TestBudgetHolds(t *testing.T) {
	var b strings.Builder
	b.WriteString("s = 'a' s | 'a' | v0 ;")
	for v := range api.MaxVars - 2 {
		b.WriteString(" " + sample.Name(v) + " = 'b' " + sample.Name(v+1) + " | 'c' s ;")
	}
	b.WriteString(" " + sample.Name(api.MaxVars-2) + " = 'd' ;")
	g := sample.Load(b.String())
	list := clashesOf(t, g, 1)
	if len(list) != 1 {
		t.Fatalf("%v", list)
	}
	if proofs, ok := proof.Of(g, 1, list, len(g.Rules)); ok || len(proofs) > 0 {
		t.Errorf("%v", proofs)
	}
	if got := steps(prove(t, g, 1, 100*len(g.Rules))); !slices.Equal(got, [][2]int{{2, 1}}) {
		t.Errorf("%v", got)
	}
}

// turned is a grammar with other names and weights.
func turned(g api.Grammar) api.Grammar {
	var h api.Grammar
	for v := range g.Vars {
		h.Vars = append(h.Vars, sample.Name(v))
	}
	for _, text := range g.Terms {
		h.Terms = append(h.Terms, text+text)
	}
	for i, r := range g.Rules {
		h.Rules = append(h.Rules, api.Rule{Left: r.Left, Right: r.Right, Weight: []float64{math.NaN(), math.Inf(1), math.Inf(-1), 1}[i%4]})
	}
	return h
}

// P13.1, rule 6: weights and names have no part in it, whatever the budget, and each call answers the same; what a budget finds a greater one does, too.
func TestSameAgain(t *testing.T) {
	r := sample.Roll(107)
	by := map[int]int{}
	for range 150 {
		g, k := r.Useful(), 1+r.Of(api.MaxK)
		list, h := clashesOf(t, g, k), turned(g)
		was := false
		for budget := 0; budget < 4000; budget += 1 + budget/5 {
			proofs, ok := proof.Of(g, k, list, budget)
			again, fine := proof.Of(h, k, list, budget)
			if ok != fine || was && !ok || !slices.EqualFunc(proofs, again, samed) {
				t.Fatalf("%s%d: %v, %v: %v, %v", gram.Print(g), budget, ok, fine, proofs, again)
			}
			if ok && !was && len(list) > 0 {
				by[budget]++
			}
			was = ok
		}
	}
	if len(by) < 8 {
		t.Errorf("%v", by)
	}
}

// P13.1: any of the clashes may be handed in, in whichever order, and more than once.
func TestAnyOrder(t *testing.T) {
	r := sample.Roll(109)
	for range 300 {
		g, k := r.Useful(), 1+r.Of(api.MaxK)
		all := clashesOf(t, g, k)
		if len(all) == 0 {
			continue
		}
		list := make([]table.Clash, r.Of(12))
		for i := range list {
			list[i] = all[r.Of(len(all))]
		}
		proofs, ok := proof.Of(g, k, list, api.MaxBudget)
		if !ok {
			t.Fatalf("%s%d: %v", gram.Print(g), k, list)
		}
		isShown(t, g, k, list, proofs)
	}
}

// Rule 4: what is told is new memory, what is handed in stays, and may be turned behind the call; lists of one answer share none.
func TestNewMemory(t *testing.T) {
	text := "s = t 'a' t | u | %nan 'b' 'c' ; t = %2 'b' t | ; u = 'b' 'a' | t ;"
	g := sample.Load(text)
	for k := 1; k <= api.MaxK; k++ {
		// Each clash twice, so that proofs have the same sides.
		list := slices.Concat(clashesOf(t, g, k), clashesOf(t, g, k))
		was := slices.Concat(clashesOf(t, g, k), clashesOf(t, g, k))
		proofs, ok := proof.Of(g, k, list, api.MaxBudget)
		if !ok || len(list) == 0 {
			t.Fatalf("%d: %v of %v", k, ok, list)
		}
		isShown(t, g, k, list, proofs)
		for _, c := range list {
			turn(c.Look)
		}
		isShown(t, g, k, was, proofs)
		for i, p := range proofs {
			turn(p.Look)
			isShown(t, g, k, was[i+1:], proofs[i+1:])
			turn(p.Sides[0].Rules)
			isShown(t, g, k, was[i+1:], proofs[i+1:])
			turn(p.Sides[1].Rules)
			isShown(t, g, k, was[i+1:], proofs[i+1:])
		}
	}
	if !gram.Same(g, sample.Load(text)) {
		t.Errorf("the grammar is turned: %s", gram.Print(g))
	}
}

// Rule 4: a proof's own lists share no memory.
func TestListsApart(t *testing.T) {
	g := sample.Load("s = t t ; t = 'a' | u ; u = 'a' ;")
	for _, p := range prove(t, g, 1, api.MaxBudget) {
		was := kept(p)
		_, _, _ = append(p.Look, 7), append(p.Sides[0].Rules, 7), append(p.Sides[1].Rules, 7)
		if !samed(p, was) {
			t.Errorf("%v, was %v", p, was)
		}
		turn(p.Sides[0].Rules)
		was.Sides[0].Rules = p.Sides[0].Rules
		if !samed(p, was) {
			t.Errorf("%v, was %v", p, was)
		}
	}
}

// turn turns all numbers of a list, and what room is behind it.
func turn(list []int) {
	list = list[:cap(list)]
	for i := range list {
		list[i] = 77
	}
}

// P13.1: great grammars, which the greatest budget is enough for.
func TestGreat(t *testing.T) {
	r := sample.Roll(113)
	n := 0
	for range 400 {
		g, _, ok := useful.Reduce(r.Great())
		if !ok || len(g.Vars) < 10 {
			continue
		}
		for k := 1; k <= 2; k++ {
			n += len(prove(t, g, k, api.MaxBudget))
		}
	}
	if n < 3000 {
		t.Errorf("%d proofs", n)
	}
}

// P13.1: as many variables as there may be, each of which leads to the next one, or to the one ahead; and as many clashes of one variable as there may be.
func TestLongWays(t *testing.T) {
	for _, back := range []bool{false, true} {
		var b strings.Builder
		for v := range api.MaxVars {
			next := v + 1
			if back {
				next = (v + api.MaxVars - 1) % api.MaxVars
			}
			if v == api.MaxVars-1 && !back || v == 1 && back {
				b.WriteString(sample.Name(v) + " = 'a' | 'a' 'b' | 'a' 'b' 'c' ;")
			} else {
				b.WriteString(sample.Name(v) + " = " + sample.Name(next) + " 'd' ;")
			}
		}
		g := sample.Load(b.String())
		for k := 1; k <= 4; k++ {
			if proofs := prove(t, g, k, api.MaxBudget); len(proofs) != []int{3, 1, 0, 0}[k-1] {
				t.Errorf("%d: %v", k, proofs)
			}
		}
	}
}

// P13.1: as many clashes of one variable as there may be.
func TestManyClashes(t *testing.T) {
	g := api.Grammar{Vars: []string{"s"}, Terms: []string{"a", "b"}}
	for i := range api.MaxRules {
		right := []int{^0}
		for bits := i; bits > 0; bits /= 2 {
			right = append(right, ^(bits % 2))
		}
		g.Rules = append(g.Rules, api.Rule{Right: right})
	}
	if !gram.Right(g) {
		t.Fatal("the grammar isn't right")
	}
	if proofs := prove(t, g, 1, api.MaxBudget); len(proofs) != api.MaxRules*(api.MaxRules-1)/2 {
		t.Errorf("%d proofs", len(proofs))
	}
	prove(t, g, 3, api.MaxBudget)
}

// P13.1: rules as long as they may be, whose variables all may vanish, or lead to all others.
func TestLongRules(t *testing.T) {
	for _, step := range []int{1, 7, 63} {
		var b strings.Builder
		for v := range api.MaxVars {
			right := ""
			for i := range api.MaxRight {
				right += sample.Name((v+1+i*step)%api.MaxVars) + " "
			}
			b.WriteString(sample.Name(v) + " = " + right + "| 'a' " + sample.Name((v+step)%api.MaxVars) + " 'b' | 'b' | ; ")
		}
		g := sample.Load(b.String())
		list := clashesOf(t, g, 1)
		if len(list) < 3*api.MaxVars {
			t.Fatalf("%d clashes", len(list))
		}
		proofs, ok := proof.Of(g, 1, list, api.MaxBudget)
		if !ok {
			t.Fatal("no proofs")
		}
		isShown(t, g, 1, list, proofs)
	}
}
