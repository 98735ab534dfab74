package edge_test

import (
	"math"
	"slices"
	"testing"

	"accidence/edge"
)

var below = math.Copysign(0, -1)

// noNumbers is weights that are no number, of unlike bits.
func noNumbers() []float64 {
	list := []float64{math.NaN(), -math.NaN(), math.Inf(1) - math.Inf(1)}
	for _, bits := range []uint64{0x7FF0000000000001, 0x7FF8000000000000, 0x7FFFFFFFFFFFFFFF, 0xFFF0000000000001, 0xFFF8000000000000, 0xFFFFFFFFFFFFFFFF} {
		list = append(list, math.Float64frombits(bits))
	}
	return list
}

// line is weights in their order, each ahead of the next one.
func line() []float64 {
	tiny, small := math.SmallestNonzeroFloat64, math.Float64frombits(1<<52)
	ahead := []float64{math.Inf(-1), -math.MaxFloat64, -1e300, -1e16, -3, -2.5, math.Nextafter(-1, -2), -1, math.Nextafter(-1, 0), -0.5, -1e-300, -small, -tiny}
	list := append(slices.Clone(ahead), below, 0)
	slices.Reverse(ahead)
	for _, f := range ahead {
		list = append(list, -f)
	}
	return append(list, math.NaN())
}

// sign is how two numbers stand.
func sign(i, j int) int {
	switch {
	case i < j:
		return -1
	case i > j:
		return 1
	}
	return 0
}

// sameBits tells whether two weights that are numbers are one, bit by bit.
func sameBits(a, b float64) bool { return math.Float64bits(a) == math.Float64bits(b) }

// P1.1, P1.2: Key, Compare, Same and Top of any two weights of a line.
func TestLine(t *testing.T) {
	list := line()
	for i, a := range list {
		for j, b := range list {
			want := sign(i, j)
			if got := edge.Compare(a, b); got != want {
				t.Errorf("Compare(%v, %v) = %d, want %d", a, b, got, want)
			}
			if got := edge.Same(a, b); got != (want == 0) {
				t.Errorf("Same(%v, %v) = %v", a, b, got)
			}
			x, y := edge.Key(a), edge.Key(b)
			if (x < y) != (want < 0) || (x == y) != (want == 0) {
				t.Errorf("Key(%v) = %d, Key(%v) = %d", a, x, b, y)
			}
			top := edge.Top(a, b)
			if last := list[max(i, j)]; math.IsNaN(last) != math.IsNaN(top) || !math.IsNaN(last) && !sameBits(top, last) {
				t.Errorf("Top(%v, %v) = %v, want %v", a, b, top, last)
			}
		}
	}
}

func TestKeyOfNought(t *testing.T) {
	if got := edge.Key(0); got != 1<<63 {
		t.Errorf("Key(0) = %d, want 2^63", got)
	}
	if got := edge.Key(below); got >= 1<<63 {
		t.Errorf("Key(-0) = %d, want less than 2^63", got)
	}
}

// P1.1: what is no number is the same as all else that is none, of whatever bits, and stands behind all numbers.
func TestNoNumber(t *testing.T) {
	none := noNumbers()
	for i, a := range none {
		for j, b := range none {
			if edge.Key(a) != edge.Key(b) || edge.Compare(a, b) != 0 || !edge.Same(a, b) || !math.IsNaN(edge.Top(a, b)) {
				t.Errorf("no numbers %d and %d aren't the same", i, j)
			}
		}
		for _, f := range line() {
			if math.IsNaN(f) {
				continue
			}
			if edge.Compare(f, a) != -1 || edge.Compare(a, f) != 1 || edge.Same(a, f) || edge.Key(a) <= edge.Key(f) {
				t.Errorf("no number %d doesn't stand behind %v", i, f)
			}
			if !math.IsNaN(edge.Top(a, f)) || !math.IsNaN(edge.Top(f, a)) {
				t.Errorf("Top of no number %d and %v", i, f)
			}
		}
	}
}

// P1.2: weights of whatever bits stand as numbers do, and any three in one line.
func TestLineOfAnyBits(t *testing.T) {
	list := append(line(), noNumbers()...)
	seed := uint64(1)
	for range 60 {
		seed = seed*6364136223846793005 + 1442695040888963407
		f := math.Float64frombits(seed)
		list = append(list, f, -f, math.Nextafter(f, math.Inf(1)))
	}
	for _, a := range list {
		for _, b := range list {
			got := edge.Compare(a, b)
			if got != -edge.Compare(b, a) || edge.Same(a, b) != (got == 0) || edge.Compare(a, b) != sign2(edge.Key(a), edge.Key(b)) {
				t.Fatalf("%v and %v: %d", a, b, got)
			}
			if (a < b) != (got == -1 && a != b && !math.IsNaN(b)) {
				t.Fatalf("Compare(%v, %v) = %d", a, b, got)
			}
			for _, c := range list {
				if got <= 0 && edge.Compare(b, c) <= 0 && edge.Compare(a, c) > 0 {
					t.Fatalf("%v, %v and %v don't stand in one line", a, b, c)
				}
			}
		}
	}
}

// sign2 is how two keys stand.
func sign2(x, y uint64) int {
	switch {
	case x < y:
		return -1
	case x > y:
		return 1
	}
	return 0
}

// P1.1: Sum goes from the first one on, and adds as float64s are added.
func TestSum(t *testing.T) {
	inf := math.Inf(1)
	for i, c := range []struct {
		list []float64
		want float64
	}{
		{nil, 0},
		{[]float64{}, 0},
		{[]float64{7}, 7},
		{[]float64{below}, below},
		{[]float64{below, below}, below},
		{[]float64{below, 0}, 0},
		{[]float64{0, below}, 0},
		{[]float64{1, -1}, 0},
		{[]float64{1, 2.5, -4}, -0.5},
		{[]float64{0.1, 0.2}, 0.30000000000000004},
		{[]float64{0.1, 0.2, 0.3}, 0.6000000000000001},
		{[]float64{0.3, 0.2, 0.1}, 0.6},
		{[]float64{1e16, -1e16, 1}, 1},
		{[]float64{1, 1e16, -1e16}, 0},
		{[]float64{1e16, 1, 1, 1}, 1e16},
		{[]float64{1, 1, 1, 1e16}, 1e16 + 4},
		{[]float64{1e308, 1e308}, inf},
		{[]float64{1e308, 1e308, -1e308}, inf},
		{[]float64{-1e308, 1e308, 1e308}, 1e308},
		{[]float64{1, -inf, 5}, -inf},
		{[]float64{inf, -inf}, math.NaN()},
		{[]float64{1e308, 1e308, -inf}, math.NaN()},
		{[]float64{1, math.NaN()}, math.NaN()},
		{[]float64{math.NaN(), inf}, math.NaN()},
	} {
		given := slices.Clone(c.list)
		got := edge.Sum(c.list)
		if math.IsNaN(got) != math.IsNaN(c.want) || !math.IsNaN(got) && !sameBits(got, c.want) {
			t.Errorf("case %d: Sum(%v) = %v, want %v", i, c.list, got, c.want)
		}
		if !slices.EqualFunc(c.list, given, edge.Same) {
			t.Errorf("case %d: the list was turned: %v", i, c.list)
		}
	}
}
