package gram

import (
	"cmp"
	"slices"

	"accidence/api"
	"accidence/edge"
	"accidence/lex"
)

// Right tells whether a grammar may be.
func Right(g api.Grammar) bool {
	// The sizes come first, so that what is compared by pairs is never much.
	return len(g.Vars) >= 1 && len(g.Vars) <= api.MaxVars && len(g.Terms) <= api.MaxTerms && len(g.Rules) <= api.MaxRules &&
		rightVars(g.Vars) && rightTerms(g.Terms) && rightRules(g) && allStand(g)
}

// rightVars tells whether variables' names may be, and none is there twice.
func rightVars(names []string) bool {
	for i, name := range names {
		if !lex.IsName(name) || slices.Contains(names[:i], name) {
			return false
		}
	}
	return true
}

// rightTerms tells whether terminals' texts may be, and rise.
func rightTerms(texts []string) bool {
	for i, text := range texts {
		if !lex.IsQuote(text) || i > 0 && text <= texts[i-1] {
			return false
		}
	}
	return true
}

// rightRules tells whether rules may be, by rising variables, of which each has one, and none is there twice.
func rightRules(g api.Grammar) bool {
	if !slices.IsSortedFunc(g.Rules, func(a, b api.Rule) int { return cmp.Compare(a.Left, b.Left) }) {
		return false
	}
	for v := range g.Vars {
		if from, to := Rules(g, v); from == to {
			return false
		}
	}
	for i, r := range g.Rules {
		if !rightRule(g, r) || hasRule(g.Rules[:i], r.Left, r.Right) {
			return false
		}
	}
	return true
}

// rightRule tells whether a rule by itself may be.
func rightRule(g api.Grammar, r api.Rule) bool {
	if !IsVar(r.Left) || !isSymbol(g, r.Left) || len(r.Right) > api.MaxRight || !isWeight(r.Weight) {
		return false
	}
	return !slices.ContainsFunc(r.Right, func(s int) bool { return !isSymbol(g, s) })
}

// isWeight tells whether a weight is one of a text.
func isWeight(f float64) bool {
	read, ok := edge.Read(edge.Text(f))
	return ok && edge.Same(read, f)
}

// allStand tells whether each terminal stands in a rule.
func allStand(g api.Grammar) bool {
	for t := range g.Terms {
		if !slices.ContainsFunc(g.Rules, func(r api.Rule) bool { return slices.Contains(r.Right, ^t) }) {
			return false
		}
	}
	return true
}
