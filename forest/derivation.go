package forest

import (
	"cmp"
	"slices"

	"accidence/gram"
)

// tree is the smallest tree of a node (0), or the second one (1).
type tree struct {
	node
	rank int
}

// choice is by which rule a tree begins, and its kids, but for terminals.
type choice struct {
	rule int
	kids []tree
}

// derivation is the derivation of the word's smallest tree, or of the second one; false: there is none, or it is too long.
func (f *Forest) derivation(rank int) ([]int, bool) {
	if f == nil {
		return nil, false
	}
	root := tree{f.root(), rank}
	steps := f.nodes[root.node][rank]
	if steps == 0 || steps >= far {
		return nil, false
	}
	rules := make([]int, 0, steps)
	known := map[tree]choice{}
	for todo := []tree{root}; len(todo) > 0; {
		x := todo[len(todo)-1]
		todo = todo[:len(todo)-1]
		made, found := known[x]
		if !found {
			made = f.choose(x)
			known[x] = made
		}
		rules = append(rules, made.rule)
		// The first kid is gone on with first.
		for _, kid := range slices.Backward(made.kids) {
			todo = append(todo, kid)
		}
	}
	return rules, true
}

// option is one of the ways to a tree: how many steps it takes, and of which number it is; the rank of the trees ahead, and of the last one.
type option struct{ steps, number, ahead, last int }

// nth is the option of a rank, by how many steps they take.
func nth(list []option, rank int) option {
	slices.SortStableFunc(list, func(a, b option) int { return cmp.Compare(a.steps, b.steps) })
	return list[rank]
}

// choose is how a tree is made. Its kids take fewer steps than itself, so that going on with these ends.
func (f *Forest) choose(x tree) choice {
	var list []option
	f.ways(x.v, func(rule int) {
		rows := f.rows(rule, x.from)
		for rank, steps := range rows[len(rows)-1][x.to] {
			if steps > 0 {
				list = append(list, option{steps, rule, rank, 0})
			}
		}
	})
	o := nth(list, x.rank)
	return choice{o.number, f.kids(o.number, x.node, o.ahead)}
}

// rows is where one may be ahead of each of a rule's symbols, and at its end, and by which trees, if it begins at a place.
func (f *Forest) rows(rule, from int) []map[int]pair {
	rows := []map[int]pair{start(from)}
	for i, s := range f.g.Rules[rule].Right {
		rows = append(rows, f.through(rows[i], s))
	}
	return rows
}

// kids is the kids of a node, by a rule, whose trees together are those of a rank.
func (f *Forest) kids(rule int, n node, rank int) []tree {
	var list []tree
	rows := f.rows(rule, n.from)
	to := n.to
	// From the last symbol on, as the rows tell what is ahead.
	for i, s := range slices.Backward(f.g.Rules[rule].Right) {
		if !gram.IsVar(s) {
			to--
			continue
		}
		o := nth(f.options(rows[i], s, to), rank)
		list = append(list, tree{node{s, o.number, to}, o.last})
		to, rank = o.number, o.ahead
	}
	slices.Reverse(list)
	return list
}

// options is the ways to come through a variable to a place, by where it begins.
func (f *Forest) options(row map[int]pair, v, to int) []option {
	var list []option
	for from := range to + 1 {
		p, q := row[from], f.nodes[node{v, from, to}]
		for i, ahead := range p {
			for j, last := range q {
				if steps := sum(ahead, last); steps > 0 {
					list = append(list, option{steps, from, i, j})
				}
			}
		}
	}
	return list
}
