package gram_test

import (
	"math"
	"slices"
	"strings"
	"testing"

	"accidence/api"
	"accidence/gram"
	"accidence/read"
	"accidence/sample"
)

// again tells a fault if a grammar, printed, isn't loaded as itself.
func again(t *testing.T, g api.Grammar) {
	t.Helper()
	s := gram.Print(g)
	got, f := gram.Load(s)
	if f != (api.Fault{}) || !gram.Same(got, g) || !gram.Right(g) {
		t.Fatalf("%v, %v, want %v: %s", got, f, g, s)
	}
	if gram.Print(got) != s {
		t.Fatalf("%q is printed as %q", s, gram.Print(got))
	}
}

// P6.2: whatever is loaded is right, and, printed, is loaded as itself.
func TestLoadedAgain(t *testing.T) {
	r := sample.Roll(21)
	fine := 0
	for range 20000 {
		if g, f := gram.Load(someText(&r, someNames(&r), 0)); f.E == api.OK {
			again(t, g)
			fine++
		}
	}
	if fine < 5000 {
		t.Errorf("%d grammars only", fine)
	}
}

// someGrammar is a right grammar.
func someGrammar(r *sample.Roll) api.Grammar {
	g := api.Grammar{Vars: someNames(r)}
	texts := []string{" ", "%", "a", "a b", "b", "|", "~"}
	for v := range g.Vars {
		for i := range 1 + r.Of(3) {
			right := make([]int, i)
			for j := range right {
				right[j] = r.Of(len(g.Vars)+len(texts)) - len(texts)
			}
			f := []float64{0, 0, below, 1, -2.5, 0.000001, 999999999.999999, math.NaN(), math.Inf(1), math.Inf(-1)}[r.Of(10)]
			g.Rules = append(g.Rules, weighed(f, v, right...))
		}
	}
	return used(g, texts)
}

// used puts into a grammar those of some terminals that stand in its rules.
func used(g api.Grammar, texts []string) api.Grammar {
	for t, text := range texts {
		stands := false
		for _, r := range g.Rules {
			for i, s := range r.Right {
				if s == ^t {
					r.Right[i], stands = ^len(g.Terms), true
				}
			}
		}
		if stands {
			g.Terms = append(g.Terms, text)
		}
	}
	return g
}

// spoil turns something of a grammar, that may be right all the same.
func spoil(r *sample.Roll, g *api.Grammar) {
	symbols := []int{0, 1, 2, 3, 4, 7, -1, -2, -3, -4, -8, math.MaxInt, math.MinInt}
	rule := &g.Rules[r.Of(len(g.Rules))]
	switch r.Of(10) {
	case 0:
		g.Vars[r.Of(len(g.Vars))] = r.One("s", "t", "u", "", "_", "9", "a b", "é", "s = ; u", strings.Repeat("n", 24), strings.Repeat("n", 25))
	case 1:
		g.Terms = append(g.Terms, r.One("a", "c", "~~", "\x7f"))
	case 2:
		if len(g.Terms) > 0 {
			g.Terms[r.Of(len(g.Terms))] = r.One("a", "c", "", "'", "a'", "a' 'b", "\t", "é", strings.Repeat("q", 16), strings.Repeat("q", 17))
		}
	case 3:
		rule.Left = symbols[r.Of(len(symbols))]
	case 4:
		rule.Right = append(rule.Right, symbols[r.Of(len(symbols))])
	case 5:
		if len(rule.Right) > 0 {
			rule.Right[r.Of(len(rule.Right))] = symbols[r.Of(len(symbols))]
		}
	case 6:
		rule.Weight = []float64{0.5, 1.0 / 3, 1e9, 1e-7, math.SmallestNonzeroFloat64, math.MaxFloat64, -0.1, below}[r.Of(8)]
	case 7:
		i := r.Of(len(g.Rules))
		g.Rules = append(g.Rules[:i:i], g.Rules[i+1:]...)
	case 8:
		g.Rules = append(g.Rules, copied(*g).Rules[r.Of(len(g.Rules))])
	case 9:
		g.Vars = append(g.Vars, "u")
	}
}

// P6.1, P6.2: right grammars, printed, are loaded as themselves; grammars that aren't right are not, as no text has them.
func TestRightOnesAgain(t *testing.T) {
	r := sample.Roll(5)
	right, wrong := 0, 0
	for range 20000 {
		g := someGrammar(&r)
		if gram.Right(g) {
			again(t, g)
		}
		spoil(&r, &g)
		if gram.Right(g) {
			again(t, g)
			right++
			continue
		}
		if got, f := gram.Load(gram.Print(g)); f.E == api.OK && gram.Same(got, g) {
			t.Fatalf("%v isn't right, but it is loaded: %s", g, gram.Print(g))
		}
		wrong++
	}
	if right < 1000 || wrong < 1000 {
		t.Errorf("%d right ones, %d wrong ones only", right, wrong)
	}
}

// P6.2: grammars as great as they may be, whose texts are no longer than a text may be.
func TestGreatOnesAgain(t *testing.T) {
	g := api.Grammar{Terms: names(64)}
	for _, name := range names(64) {
		g.Vars = append(g.Vars, name+strings.Repeat("_", 5))
	}
	for i := range 256 {
		right := slices.Repeat([]int{i % 64}, 24)
		for j := range 12 {
			right[j] = ^((i + j) % 64)
		}
		g.Rules = append(g.Rules, weighed(float64(i)/1000000+1, i/4, right...))
	}
	again(t, g)
	// A longer text is too long, whatever it is.
	for i := range g.Vars {
		g.Vars[i] += strings.Repeat("_", 16)
	}
	s := gram.Print(g)
	if got, f := gram.Load(s); !gram.Right(g) || len(s) <= api.MaxText || f != (api.Fault{E: api.ErrLong}) || !gram.Same(got, api.Grammar{}) {
		t.Errorf("%d bytes: %v", len(s), f)
	}
}

// words is texts, none of them twice, of at most three bytes each.
type words map[string]int

// join is the words of the one, each with each of the other one behind it.
func (w words) join(o words) words {
	all := words{}
	for a := range w {
		for b := range o {
			if len(a+b) <= 3 {
				all[a+b] = 1
			}
		}
	}
	return all
}

// take puts in all words of another one.
func (w words) take(o words) words {
	for a := range o {
		w[a] = 1
	}
	return w
}

// ofAlts is the words of alternatives, by those of the names.
func ofAlts(alts []read.Alt, by map[string]words) words {
	all := words{}
	for _, a := range alts {
		one := words{"": 1}
		for _, item := range a.Items {
			one = one.join(ofItem(item, by))
		}
		all.take(one)
	}
	return all
}

// ofItem is the words of an item, by those of the names.
func ofItem(item read.Item, by map[string]words) words {
	x := words{item.Text: 1}
	switch item.Kind {
	case read.Var:
		x = words{}.take(by[item.Text])
	case read.Group:
		x = ofAlts(item.Alts, by)
	}
	many := words{"": 1}
	for range 3 {
		many.take(many.join(x))
	}
	switch item.Op {
	case '?':
		return x.take(words{"": 1})
	case '*':
		return many
	case '+':
		return many.join(x)
	}
	return x
}

// ofVars is the words of each variable of a grammar.
func ofVars(g api.Grammar) []words {
	by := make([]words, len(g.Vars))
	for i := range by {
		by[i] = words{}
	}
	for more := true; more; {
		more = false
		for _, r := range g.Rules {
			one := words{"": 1}
			for _, s := range r.Right {
				if s >= 0 {
					one = one.join(by[s])
				} else {
					one = one.join(words{g.Terms[^s]: 1})
				}
			}
			had := len(by[r.Left])
			by[r.Left].take(one)
			more = more || len(by[r.Left]) > had
		}
	}
	return by
}

// P6.1: the words of a loaded grammar's variables are those of the text's definitions, where a sign says how often an item comes.
func TestLoadedWords(t *testing.T) {
	r := sample.Roll(13)
	fine, some := 0, 0
	for range 1500 {
		s := someText(&r, someNames(&r), 0)
		g, f := gram.Load(s)
		if f.E != api.OK {
			continue
		}
		defs, _ := read.Parse(s)
		by := map[string]words{}
		for more := true; more; {
			more = false
			for _, d := range defs {
				now := ofAlts(d.Alts, by)
				more = more || len(now) > len(by[d.Name])
				by[d.Name] = now
			}
		}
		for v, got := range ofVars(g)[:len(defs)] {
			if want := by[defs[v].Name]; len(got) != len(want) || len(got.take(want)) != len(want) {
				t.Fatalf("%q: the words of %s: %v, want %v", s, defs[v].Name, got, want)
			}
			some += len(got)
		}
		fine++
	}
	if fine < 400 || some < 4000 {
		t.Errorf("%d grammars, %d words only", fine, some)
	}
}
