package proof_test

import (
	"math"
	"slices"
	"testing"

	"accidence/api"
	"accidence/gram"
	"accidence/proof"
	"accidence/sample"
)

// side is a side of a derivation, and where it is cut.
func side(cut int, rules ...int) proof.Side { return proof.Side{Rules: rules, Cut: cut} }

// of is a proof of two rules of the start, by so many terminals.
func of(a, b, k int, look []int, one, other proof.Side) proof.Proof {
	return proof.Proof{A: a, B: b, K: k, Look: look, Sides: [2]proof.Side{one, other}}
}

// ofVar is a proof of another variable.
func ofVar(v int, p proof.Proof) proof.Proof {
	p.Var = v
	return p
}

// P13.1: what shows what it says, and what doesn't, by whichever of its parts.
func TestCheck(t *testing.T) {
	const (
		one   = "s = 'a' s | 'a' ;"
		two   = "s = 'x' t | 'y' t 'a' | t ; t = 'a' | ;"
		three = "s = u t 'c' ; t = 'a' 'b' | 'a' t | ; u = 'a' u | 'b' ;"
	)
	long := append(slices.Repeat([]int{0}, api.MaxSteps-1), 1)
	fine := of(0, 1, 1, []int{0}, side(0, 0, 1), side(1, 0, 1))
	for i, c := range []struct {
		text string
		p    proof.Proof
		want api.Errno
	}{
		// The chapter's example: of one terminal the rules clash, of two they don't.
		{one, fine, api.OK},
		{one, of(0, 1, 2, []int{0}, side(0, 0, 1), side(1, 0, 1)), api.ErrLook}, {one, of(0, 1, 2, []int{0, 0}, side(0, 0, 1), side(1, 0, 1)), api.ErrLook},
		// Either rule may be the first one, and the sides may be longer.
		{one, of(1, 0, 1, []int{0}, side(1, 0, 1), side(0, 0, 1)), api.OK}, {one, of(0, 1, 1, []int{0}, side(2, 0, 0, 0, 1), side(0, 1)), api.OK},
		{one, of(1, 0, 1, []int{0}, side(0, 0, 1), side(1, 0, 1)), api.ErrVar},
		// A or B is no rule, both are one, one isn't Var's, K is below 1.
		{one, of(-1, 1, 1, []int{0}, side(0, 0, 1), side(1, 0, 1)), api.ErrRule}, {one, of(2, 1, 1, []int{0}, side(0, 0, 1), side(1, 0, 1)), api.ErrRule}, {one, of(math.MinInt, 1, 1, []int{0}, side(0, 0, 1), side(1, 0, 1)), api.ErrRule},
		{one, of(0, -1, 1, []int{0}, side(0, 0, 1), side(1, 0, 1)), api.ErrRule}, {one, of(0, 2, 1, []int{0}, side(0, 0, 1), side(1, 0, 1)), api.ErrRule}, {one, of(0, math.MaxInt, 1, []int{0}, side(0, 0, 1), side(1, 0, 1)), api.ErrRule},
		{one, of(0, 0, 1, []int{0}, side(0, 0, 1), side(0, 0, 1)), api.ErrRule}, {one, of(1, 1, 1, []int{0}, side(1, 0, 1), side(1, 0, 1)), api.ErrRule},
		{one, ofVar(1, fine), api.ErrRule}, {one, ofVar(-1, fine), api.ErrRule}, {one, ofVar(math.MinInt, fine), api.ErrRule}, {one, ofVar(math.MaxInt, fine), api.ErrRule},
		{two, of(3, 4, 1, []int{0}, side(1, 0, 3), side(1, 1, 4)), api.ErrRule}, {two, of(0, 3, 1, []int{0}, side(0, 0, 3), side(1, 0, 3)), api.ErrRule}, {two, of(3, 2, 1, []int{0}, side(1, 0, 3), side(0, 2, 3)), api.ErrRule},
		{one, of(0, 1, 0, nil, side(0, 0, 1), side(1, 0, 1)), api.ErrRule}, {one, of(0, 1, -1, nil, side(0, 0, 1), side(1, 0, 1)), api.ErrRule}, {one, of(0, 1, math.MinInt, nil, side(0, 0, 1), side(1, 0, 1)), api.ErrRule},
		{one, of(0, 2, 1, []int{7}, side(9), side(-1, 5)), api.ErrRule}, {one, proof.Proof{}, api.ErrRule},
		// A's side isn't a derivation of a word.
		{one, of(0, 1, 1, []int{0}, side(0), side(1, 0, 1)), api.ErrEnd}, {one, of(0, 1, 1, []int{0}, side(0, 0), side(1, 0, 1)), api.ErrEnd}, {one, of(0, 1, 1, []int{0}, side(0, 0, 1, 1), side(1, 0, 1)), api.ErrEnd},
		{one, of(0, 1, 1, []int{0}, side(0, 0, 2), side(1, 0, 1)), api.ErrRule}, {one, of(0, 1, 1, []int{0}, side(0, 0, -1), side(1, 0, 1)), api.ErrRule}, {two, of(0, 1, 1, nil, side(0, 0, 0), side(0, 1, 3)), api.ErrVar},
		{one, of(0, 1, 1, []int{0}, side(0, append([]int{0}, long...)...), side(1, 0, 1)), api.ErrMany}, {one, of(0, 1, 1, []int{0}, side(0, long...), side(1, 0, 1)), api.OK}, {one, of(0, 1, 1, []int{0}, side(0, long...), side(api.MaxSteps-1, long...)), api.OK},
		// There is no such step, or it isn't by A.
		{one, of(0, 1, 1, []int{0}, side(-1, 0, 1), side(1, 0, 1)), api.ErrVar}, {one, of(0, 1, 1, []int{0}, side(1, 0, 1), side(1, 0, 1)), api.ErrVar}, {one, of(0, 1, 1, []int{0}, side(2, 0, 1), side(1, 0, 1)), api.ErrVar}, {one, of(0, 1, 1, []int{0}, side(math.MaxInt, 0, 1), side(1, 0, 1)), api.ErrVar}, {one, of(0, 1, 1, []int{0}, side(math.MinInt, 0, 1), side(1, 0, 1)), api.ErrVar},
		// It isn't taken ahead of the lookahead.
		{one, of(0, 1, 1, nil, side(0, 0, 1), side(1, 0, 1)), api.ErrLook}, {one, of(0, 1, 1, []int{1}, side(0, 0, 1), side(1, 0, 1)), api.ErrLook}, {one, of(0, 1, 1, []int{0, 0}, side(0, 0, 1), side(1, 0, 1)), api.ErrLook}, {one, of(0, 1, 1, []int{math.MinInt}, side(0, 0, 1), side(1, 0, 1)), api.ErrLook}, {one, of(0, 1, 2, []int{0, api.End}, side(0, 0, 1), side(1, 0, 1)), api.ErrLook},
		// So of B's side, but behind all of A's.
		{one, of(0, 1, 1, []int{0}, side(0, 0, 1), side(1)), api.ErrEnd}, {one, of(0, 1, 1, []int{0}, side(0, 0, 1), side(1, 0, 7)), api.ErrRule}, {one, of(0, 1, 1, []int{0}, side(0, 0, 1), side(0, append([]int{0}, long...)...)), api.ErrMany}, {two, of(0, 1, 1, nil, side(0, 0, 4), side(0, 3, 1)), api.ErrLook}, {two, of(0, 1, 1, []int{1}, side(0, 0, 4), side(0, 3, 1)), api.ErrVar},
		{one, of(0, 1, 1, []int{0}, side(0, 0, 1), side(0, 0, 1)), api.ErrVar}, {one, of(0, 1, 1, []int{0}, side(0, 0, 1), side(2, 0, 1)), api.ErrVar}, {one, of(0, 1, 1, []int{0}, side(0, 0, 1), side(-1, 0, 1)), api.ErrVar},
		// Of a side its derivation is looked at first, then its step, and what comes next last; and all of A ahead of B.
		{one, of(0, 1, 1, nil, side(7, 0), side(7, 9)), api.ErrEnd}, {one, of(0, 1, 1, nil, side(7, 0, 1), side(7, 9)), api.ErrVar}, {one, of(0, 1, 1, nil, side(0, 0, 1), side(7, 9)), api.ErrLook}, {one, of(0, 1, 1, []int{0}, side(0, 0, 1), side(7, 9)), api.ErrRule}, {one, of(0, 1, 2, []int{0, 0}, side(0, 0, 1), side(7, 1)), api.ErrVar},
		// Terminals ahead of the rule are passed, by whichever rules they came; what comes next goes on behind it.
		{two, ofVar(1, of(3, 4, 1, []int{0}, side(1, 0, 3), side(1, 1, 4))), api.OK}, {two, ofVar(1, of(3, 4, 2, []int{0}, side(1, 0, 3), side(1, 1, 4))), api.OK}, {two, ofVar(1, of(3, 4, 2, []int{0, 0}, side(1, 1, 3), side(1, 1, 4))), api.ErrLook}, {two, ofVar(1, of(3, 4, 4, []int{0}, side(1, 2, 3), side(1, 1, 4))), api.OK},
		{three, ofVar(1, of(1, 2, 1, []int{0}, side(2, 0, 5, 1), side(2, 0, 5, 1))), api.ErrVar}, {three, ofVar(1, of(1, 2, 1, []int{0}, side(2, 0, 5, 1), side(2, 0, 5, 2, 3))), api.OK}, {three, ofVar(1, of(1, 2, 1, []int{0}, side(3, 0, 4, 5, 1), side(2, 0, 5, 2, 3))), api.OK}, {three, ofVar(1, of(1, 2, 2, []int{0, 1}, side(3, 0, 4, 5, 1), side(2, 0, 5, 2, 3))), api.ErrLook}, {three, ofVar(1, of(1, 2, 1, []int{1}, side(3, 0, 4, 5, 1), side(2, 0, 5, 2, 3))), api.ErrLook},
		// The end, and as many terminals as one likes.
		{"s = t | ; t = ;", of(0, 1, 1, nil, side(0, 0, 2), side(0, 1)), api.OK}, {"s = t | ; t = ;", of(0, 1, 4, []int{}, side(0, 0, 2), side(0, 1)), api.OK}, {"s = t | ; t = ;", of(0, 1, math.MaxInt, nil, side(0, 0, 2), side(0, 1)), api.OK}, {"s = t | ; t = ;", of(0, 1, 1, []int{api.End}, side(0, 0, 2), side(0, 1)), api.ErrLook}, {"s = t | ; t = ;", of(0, 1, 1, []int{0}, side(0, 0, 2), side(0, 1)), api.ErrLook},
		{"s = 'a' | t ; t = 'a' ;", of(0, 1, math.MaxInt, []int{0}, side(0, 0), side(0, 1, 2)), api.OK}, {"s = 'a' | t ; t = 'a' ;", of(0, 1, 9, []int{0, 0}, side(0, 0), side(0, 1, 2)), api.ErrLook},
		{"s = 'a' 'b' 'c' 'd' 'e' | t ; t = 'a' 'b' 'c' 'd' 'e' 'f' ;", of(0, 1, 5, []int{0, 1, 2, 3, 4}, side(0, 0), side(0, 1, 2)), api.OK}, {"s = 'a' 'b' 'c' 'd' 'e' | t ; t = 'a' 'b' 'c' 'd' 'e' 'f' ;", of(0, 1, 6, []int{0, 1, 2, 3, 4}, side(0, 0), side(0, 1, 2)), api.ErrLook},
	} {
		g, p := sample.Load(c.text), kept(c.p)
		if got := proof.Check(g, p); got != c.want {
			t.Errorf("case %d: %d, want %d", i, got, c.want)
		}
		if !samed(p, c.p) || !gram.Same(g, sample.Load(c.text)) {
			t.Errorf("case %d: what is handed in is turned", i)
		}
	}
}

// kept is a proof that shares no memory with another one.
func kept(p proof.Proof) proof.Proof {
	p.Look = slices.Clone(p.Look)
	for i := range p.Sides {
		p.Sides[i].Rules = slices.Clone(p.Sides[i].Rules)
	}
	return p
}

// samed tells whether two proofs are one.
func samed(a, b proof.Proof) bool {
	for i := range a.Sides {
		if a.Sides[i].Cut != b.Sides[i].Cut || !slices.Equal(a.Sides[i].Rules, b.Sides[i].Rules) {
			return false
		}
	}
	return a.Var == b.Var && a.A == b.A && a.B == b.B && a.K == b.K && slices.Equal(a.Look, b.Look)
}

// Rule 1: no call panics, whatever it is handed.
func TestNoPanic(t *testing.T) {
	wild := sample.Wild()
	for _, g := range sample.Odd() {
		for i, a := range wild {
			b := wild[(i*3+1)%len(wild)]
			p := proof.Proof{Var: a, A: b, B: a, K: b, Look: wild, Sides: [2]proof.Side{side(a, wild...), side(b)}}
			proof.Check(g, p)
			proof.Check(g, of(0, 1, a, []int{b}, side(0, 0, 2, 1), side(a, 1)))
			proof.Check(g, of(0, 1, 2, nil, side(b, 0, 1, 1), side(0, wild...)))
			goThrough(g, a, b)
		}
	}
}
