package table

import (
	"slices"

	"accidence/strs"
)

// Clash is two rules of a variable, A below B, that a lookahead both means.
type Clash struct {
	Var, A, B int
	Look      []int
}

// Clashes is, of each two rules of a variable that a lookahead both means, the first such one.
func (t *Table) Clashes() []Clash {
	var list []Clash
	for v, rows := range t.held() {
		list = append(list, clashes(v, rows)...)
	}
	return list
}

// clashes is those of a variable, by its rows.
func clashes(v int, rows []Row) []Clash {
	var list []Clash
	pairs, met := map[[2]int]struct{}{}, strs.Of()
	for _, row := range rows {
		// Many rows may mean the same rules, of which all but the first one tell nothing new.
		if len(row.Rules) < 2 || !met.Add(row.Rules) {
			continue
		}
		for i, a := range row.Rules {
			for _, b := range row.Rules[i+1:] {
				if _, told := pairs[[2]int{a, b}]; !told {
					pairs[[2]int{a, b}] = struct{}{}
					list = append(list, Clash{Var: v, A: a, B: b, Look: slices.Clone(row.Look)})
				}
			}
		}
	}
	slices.SortFunc(list, func(x, y Clash) int { return strs.Compare([]int{x.A, x.B}, []int{y.A, y.B}) })
	return list
}
