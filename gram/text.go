package gram

import (
	"slices"
	"strings"

	"accidence/api"
	"accidence/edge"
)

// Print is a grammar's text.
func Print(g api.Grammar) string {
	var b strings.Builder
	for v, name := range g.Vars {
		b.WriteString(name + " =")
		from, to := Rules(g, v)
		for i := from; i < to; i++ {
			if i > from {
				b.WriteString(" |")
			}
			printRule(&b, g, g.Rules[i])
		}
		b.WriteString(" ;\n")
	}
	return b.String()
}

// printRule puts a rule's alternative behind a text.
func printRule(b *strings.Builder, g api.Grammar, r api.Rule) {
	if !edge.Same(r.Weight, 0) {
		b.WriteString(" %" + edge.Text(r.Weight))
	}
	for _, s := range r.Right {
		b.WriteString(" " + Name(g, s))
	}
}

// Word is a text's terminals, between blanks; -1 and where: a piece is none.
func Word(g api.Grammar, s string) ([]int, int) {
	var list []int
	for i, piece := range strings.FieldsFunc(s, isBlank) {
		t := slices.Index(g.Terms, piece)
		if t < 0 {
			return nil, i
		}
		list = append(list, t)
	}
	return list, -1
}

// isBlank tells whether a character stands between pieces.
func isBlank(r rune) bool { return r == ' ' || r == '\t' || r == '\r' || r == '\n' }
