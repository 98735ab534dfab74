package table

import (
	"sort"

	"accidence/strs"
)

// mean lays a rule in the rows of its lookaheads, which rise. Those that have none yet get one.
func mean(rows []Row, looks [][]int, rule int) []Row {
	var fresh []Row
	var places []int
	for _, look := range looks {
		at, there := seek(rows, look)
		if there {
			rows[at].Rules = append(rows[at].Rules, rule)
			continue
		}
		fresh, places = append(fresh, Row{Look: look, Rules: []int{rule}}), append(places, at)
	}
	return insert(rows, fresh, places)
}

// seek is where the row of a lookahead is among some, or would be, and whether it is there.
func seek(rows []Row, look []int) (int, bool) {
	return sort.Find(len(rows), func(i int) int { return strs.Compare(look, rows[i].Look) })
}

// insert puts rows among others, each ahead of the one at its place. It goes from the last one to the first one, so that each of the others moves once, however many are put ahead of it.
func insert(rows, fresh []Row, places []int) []Row {
	end := len(rows)
	rows = append(rows, fresh...)
	for i := len(fresh) - 1; i >= 0; i-- {
		at := places[i]
		copy(rows[at+i+1:], rows[at:end])
		rows[at+i], end = fresh[i], at
	}
	return rows
}
