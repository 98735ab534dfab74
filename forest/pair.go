package forest

// far is more steps than a derivation has that is told: it would be a list of 2^31 bytes.
const far = 1 << 28

// pair is how many steps the smallest two trees take, the smaller one's first; 0: there is none. Those that take far steps may take more.
type pair [2]int

// with is the smallest two of a pair's trees and another one.
func (p pair) with(steps int) pair {
	switch {
	case steps == 0, p[1] > 0 && p[1] <= steps:
		return p
	case p[0] == 0, p[0] > steps:
		return pair{steps, p[0]}
	}
	return pair{p[0], steps}
}

// or is the smallest two of both pairs' trees.
func (p pair) or(q pair) pair { return p.with(q[0]).with(q[1]) }

// and is the smallest two that are made of a tree of each pair.
func (p pair) and(q pair) pair {
	return pair{}.with(sum(p[0], q[0])).with(sum(p[0], q[1])).with(sum(p[1], q[0]))
}

// trees is how many trees a pair has.
func (p pair) trees() int {
	n := 0
	for _, steps := range p {
		if steps > 0 {
			n++
		}
	}
	return n
}

// sum is how many steps two trees take; 0: one of them isn't there.
func sum(a, b int) int {
	if a == 0 || b == 0 {
		return 0
	}
	return min(a+b, far)
}
