package gram

import (
	"slices"
	"strconv"

	"accidence/api"
	"accidence/read"
)

// wrong goes up from what is wrong first, to Load.
type wrong struct{ fault api.Fault }

// fail tells what is wrong at a place.
func fail(e api.Errno, at int) { panic(wrong{api.Fault{E: e, At: at}}) }

// Load is the grammar of a text.
func Load(s string) (g api.Grammar, f api.Fault) {
	defs, f := read.Parse(s)
	if f.E != api.OK {
		return api.Grammar{}, f
	}
	defer func() {
		what := recover()
		if what == nil {
			return
		}
		w, ok := what.(wrong)
		if !ok {
			panic(what)
		}
		g, f = api.Grammar{}, w.fault
	}()
	var l loader
	l.define(defs)
	for _, d := range defs {
		l.wantNames(d.Alts)
	}
	l.goThrough()
	l.orderTerms()
	return l.g, api.Fault{}
}

// loader is a grammar that is made: its terminals stand in the order in which they come, and alts are what is written of each variable, the new ones too.
type loader struct {
	g    api.Grammar
	alts [][]read.Alt
	last int // the number of the newest variable's name
}

// define makes each definition's variable.
func (l *loader) define(defs []read.Def) {
	for _, d := range defs {
		if slices.Contains(l.g.Vars, d.Name) {
			fail(api.ErrTwice, d.At)
		}
		l.add(d.Name, d.At)
		l.alts = append(l.alts, d.Alts)
	}
}

// wantNames wants each name to be defined.
func (l *loader) wantNames(alts []read.Alt) {
	for _, a := range alts {
		for _, item := range a.Items {
			if item.Kind == read.Var && !slices.Contains(l.g.Vars, item.Text) {
				fail(api.ErrNone, item.At)
			}
			l.wantNames(item.Alts)
		}
	}
}

// goThrough makes all rules; the variables grow on the way.
func (l *loader) goThrough() {
	for v := 0; v < len(l.alts); v++ {
		for _, a := range l.alts[v] {
			l.rule(v, a)
		}
	}
}

// rule makes the rule of a variable's alternative.
func (l *loader) rule(v int, a read.Alt) {
	if len(l.g.Rules) == api.MaxRules || len(a.Items) > api.MaxRight {
		fail(api.ErrMany, a.At)
	}
	var right []int
	for _, item := range a.Items {
		right = append(right, l.symbol(item))
	}
	if hasRule(l.g.Rules, v, right) {
		fail(api.ErrSame, a.At)
	}
	l.g.Rules = append(l.g.Rules, api.Rule{Left: v, Right: right, Weight: a.Weight})
}

// symbol is an item's symbol.
func (l *loader) symbol(item read.Item) int {
	switch {
	case item.Op != 0 || item.Kind == read.Group:
		return l.fresh(item)
	case item.Kind == read.Term:
		return ^l.term(item)
	}
	return slices.Index(l.g.Vars, item.Text)
}

// term is a quote's terminal, which is made if it isn't there.
func (l *loader) term(item read.Item) int {
	if t := slices.Index(l.g.Terms, item.Text); t >= 0 {
		return t
	}
	if len(l.g.Terms) == api.MaxTerms {
		fail(api.ErrMany, item.At)
	}
	l.g.Terms = append(l.g.Terms, item.Text)
	return len(l.g.Terms) - 1
}

// fresh is the new variable of an item with a sign behind it, or in brackets.
func (l *loader) fresh(item read.Item) int {
	name := l.newName()
	l.add(name, item.At)
	l.alts = append(l.alts, meaning(item, name))
	return len(l.g.Vars) - 1
}

// newName is the name of the next new variable.
func (l *loader) newName() string {
	for {
		l.last++
		if name := "g" + strconv.Itoa(l.last); !slices.Contains(l.g.Vars, name) {
			return name
		}
	}
}

// add makes a variable of what stands at a place.
func (l *loader) add(name string, at int) {
	if len(l.g.Vars) == api.MaxVars {
		fail(api.ErrMany, at)
	}
	l.g.Vars = append(l.g.Vars, name)
}

// meaning is the alternatives of an item's new variable, which has that name.
func meaning(item read.Item, name string) []read.Alt {
	alt := func(items ...read.Item) read.Alt { return read.Alt{At: item.At, Items: items} }
	plain, many := item, item
	plain.Op, many.Op = 0, '*'
	switch item.Op {
	case '?':
		return []read.Alt{alt(plain), alt()}
	case '*':
		self := read.Item{At: item.At, Kind: read.Var, Text: name}
		return []read.Alt{alt(plain, self), alt()}
	case '+':
		return []read.Alt{alt(plain, many)}
	}
	return item.Alts
}

// orderTerms puts the terminals in order, and turns their numbers in all rules.
func (l *loader) orderTerms() {
	came := l.g.Terms
	l.g.Terms = slices.Sorted(slices.Values(came))
	for _, r := range l.g.Rules {
		for i, s := range r.Right {
			if !IsVar(s) {
				r.Right[i] = ^slices.Index(l.g.Terms, came[^s])
			}
		}
	}
}
