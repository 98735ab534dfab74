package gram_test

import (
	"slices"
	"strconv"
	"strings"
	"testing"

	"accidence/api"
	"accidence/edge"
	"accidence/gram"
	"accidence/lex"
	"accidence/read"
	"accidence/sample"
)

// someText is definitions of the names of a list, in which items are names of this list, and others now and then, quotes and brackets.
func someText(r *sample.Roll, defined []string, strange int) string {
	var b strings.Builder
	for _, name := range defined {
		b.WriteString(name + " = ")
		writeAlts(r, &b, defined, strange, 0)
		b.WriteString(r.One(";", " ;\n", "; # ' ( s\n"))
	}
	return b.String()
}

func writeAlts(r *sample.Roll, b *strings.Builder, defined []string, strange, deep int) {
	for i := range 1 + r.Of(3) {
		if i > 0 {
			b.WriteString("| ")
		}
		b.WriteString(r.One("", "", "", "%2 ", "%0 ", "%-0 ", "%nan ", "%-inf ", "%1.250 "))
		for range r.Of(4) {
			switch kind := r.Of(6); {
			case kind == 0 && deep < 3:
				b.WriteString("( ")
				writeAlts(r, b, defined, strange, deep+1)
				b.WriteString(")")
			case kind < 3 && r.Of(100) < strange:
				b.WriteString(r.One("x", "g1", "g2", "G"))
			case kind < 3:
				b.WriteString(r.One(defined...))
			default:
				b.WriteString(r.One("'a'", "'b'", "'c'", "' '", "'B'"))
			}
			b.WriteString(r.One("", "", "", "?", "*", "+") + r.One(" ", "\n"))
		}
	}
}

// someNames is names to be defined, some of which new variables would have, too.
func someNames(r *sample.Roll) []string {
	list := []string{"s", "t", "g1", "g3", "g4", "g10", "g01"}
	for i := range list {
		j := r.Of(i + 1)
		list[i], list[j] = list[j], list[i]
	}
	return list[:1+r.Of(4)]
}

// fold holds a loaded grammar against definitions: each new variable against the one item of which it comes.
type fold struct {
	g    api.Grammar
	defs int
	seen []int // the new variables that were come to
	ok   bool
}

// alts holds a variable's rules against alternatives.
func (f *fold) alts(v int, alts []read.Alt) {
	var rules []api.Rule
	for _, r := range f.g.Rules {
		if r.Left == v {
			rules = append(rules, r)
		}
	}
	f.ok = f.ok && len(rules) == len(alts)
	for i := 0; f.ok && i < len(rules); i++ {
		f.ok = edge.Same(rules[i].Weight, alts[i].Weight) && len(rules[i].Right) == len(alts[i].Items)
		for j := 0; f.ok && j < len(rules[i].Right); j++ {
			f.item(rules[i].Right[j], alts[i].Items[j])
		}
	}
}

// item holds a symbol against an item.
func (f *fold) item(s int, item read.Item) {
	switch {
	case item.Op != 0:
		f.sign(s, item)
	case item.Kind == read.Group:
		if f.fresh(s) {
			f.alts(s, item.Alts)
		}
	case item.Kind == read.Term:
		f.ok = f.ok && s < 0 && f.g.Terms[^s] == item.Text
	default:
		f.ok = f.ok && s >= 0 && s < f.defs && f.g.Vars[s] == item.Text
	}
}

// sign holds a symbol against an item with a sign behind it.
func (f *fold) sign(s int, item read.Item) {
	if !f.fresh(s) {
		return
	}
	var rules []api.Rule
	for _, r := range f.g.Rules {
		if r.Left == s {
			rules = append(rules, r)
			f.ok = f.ok && edge.Same(r.Weight, 0)
		}
	}
	once, many := item, item
	once.Op, many.Op = 0, '*'
	switch {
	case item.Op == '?' && len(rules) == 2 && len(rules[0].Right) == 1 && len(rules[1].Right) == 0:
		f.item(rules[0].Right[0], once)
	case item.Op == '*' && len(rules) == 2 && len(rules[0].Right) == 2 && rules[0].Right[1] == s && len(rules[1].Right) == 0:
		f.item(rules[0].Right[0], once)
	case item.Op == '+' && len(rules) == 1 && len(rules[0].Right) == 2:
		f.item(rules[0].Right[0], once)
		f.item(rules[0].Right[1], many)
	default:
		f.ok = false
	}
}

// fresh tells whether a symbol is a new variable that wasn't come to.
func (f *fold) fresh(s int) bool {
	f.ok = f.ok && s >= f.defs && s < len(f.g.Vars) && !slices.Contains(f.seen, s)
	f.seen = append(f.seen, s)
	return f.ok
}

// folds tells whether a grammar is just definitions', with its new variables in order, and named as they must be.
func folds(g api.Grammar, defs []read.Def) bool {
	f := fold{g: g, defs: len(defs), ok: len(g.Vars) >= len(defs)}
	for v := 0; f.ok && v < len(defs); v++ {
		f.ok = g.Vars[v] == defs[v].Name
		f.alts(v, defs[v].Alts)
	}
	next := len(defs)
	for _, r := range g.Rules {
		for _, s := range r.Right {
			if s == next {
				next++
			}
			f.ok = f.ok && s < next
		}
	}
	number := 1
	for _, name := range g.Vars[min(len(defs), len(g.Vars)):] {
		for slices.Contains(g.Vars[:len(defs)], "g"+strconv.Itoa(number)) {
			number++
		}
		f.ok = f.ok && name == "g"+strconv.Itoa(number)
		number++
	}
	return f.ok && len(f.seen) == len(g.Vars)-len(defs)
}

// P6.1: whatever text is loaded, its grammar is, folded again, what was written.
func TestLoadedIsWritten(t *testing.T) {
	r := sample.Roll(3)
	fine, fresh := 0, 0
	for range 20000 {
		s := someText(&r, someNames(&r), 0)
		g, f := gram.Load(s)
		if f.E != api.OK {
			if f.E != api.ErrSame && f.E != api.ErrMany || !gram.Same(g, api.Grammar{}) {
				t.Fatalf("%q: %v, %v", s, g, f)
			}
			continue
		}
		defs, _ := read.Parse(s)
		if !folds(g, defs) || !gram.Right(g) {
			t.Fatalf("%q:\n%s", s, gram.Print(g))
		}
		fine++
		fresh += len(g.Vars) - len(defs)
	}
	if fine < 5000 || fresh < 5000 {
		t.Errorf("%d grammars, %d new variables only", fine, fresh)
	}
}

// named is the first fault of a text's names, by its words: a name ahead of a = is defined, any other one is used.
func named(s string) api.Fault {
	words, _ := lex.All(s)
	var defined []string
	for i, w := range words {
		if w.Kind == lex.Name && words[i+1].Text == "=" && words[i+1].Kind == lex.Sign {
			if slices.Contains(defined, w.Text) {
				return api.Fault{E: api.ErrTwice, At: w.At}
			}
			defined = append(defined, w.Text)
		}
	}
	for i, w := range words {
		if w.Kind == lex.Name && (words[i+1].Text != "=" || words[i+1].Kind != lex.Sign) && !slices.Contains(defined, w.Text) {
			return api.Fault{E: api.ErrNone, At: w.At}
		}
	}
	return api.Fault{}
}

// P6.1: names that are defined twice, or not at all, at their places.
func TestLoadNamesByWords(t *testing.T) {
	r := sample.Roll(8)
	twice, none := 0, 0
	for range 20000 {
		list := someNames(&r)
		if r.Of(8) == 0 {
			list = append(list, list[r.Of(len(list))])
		}
		s := someText(&r, list, 10)
		want := named(s)
		g, f := gram.Load(s)
		switch {
		case want.E == api.OK && (f.E == api.ErrTwice || f.E == api.ErrNone):
			t.Fatalf("%q: %v, want none", s, f)
		case want.E != api.OK && (f != want || !gram.Same(g, api.Grammar{})):
			t.Fatalf("%q: %v, want %v", s, f, want)
		case want.E == api.ErrTwice:
			twice++
		case want.E == api.ErrNone:
			none++
		}
	}
	if twice < 500 || none < 500 {
		t.Errorf("%d names twice, %d that aren't defined only", twice, none)
	}
}
