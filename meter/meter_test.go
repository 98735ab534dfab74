package meter_test

import (
	"errors"
	"math"
	"runtime"
	"slices"
	"testing"

	"accidence/api"
	"accidence/meter"
)

// caught is what goes up from some work, or nil.
func caught(work func()) (what any) {
	defer func() { what = recover() }()
	work()
	return nil
}

// holds tells a fault if a meter hasn't so much left, or hasn't spent so much.
func holds(t *testing.T, m *meter.Meter, left, spent int) {
	t.Helper()
	if m.Left() != left || m.Spent() != spent {
		t.Errorf("left %d, spent %d, want %d and %d", m.Left(), m.Spent(), left, spent)
	}
}

// P3.1: a meter is of so much, from 0 up to MaxBudget.
func TestNew(t *testing.T) {
	for _, c := range [][2]int{{math.MinInt, 0}, {-1, 0}, {0, 0}, {1, 1}, {5, 5}, {999999, 999999}, {1000000, 1000000}, {1000001, 1000000}, {math.MaxInt, 1000000}} {
		holds(t, meter.New(c[0]), c[1], 0)
	}
	if a, b := meter.New(3), meter.New(3); a == b {
		t.Error("two meters are one")
	}
	if api.MaxBudget != 1000000 {
		t.Error("MaxBudget")
	}
}

// P3.1: so much is spent, as long as it is there; below 0 counts as 0; else what is left is spent, and the work ends.
func TestSpend(t *testing.T) {
	for i, c := range []struct {
		of          int
		spend       []int
		done        bool
		left, spent int
	}{
		{5, nil, true, 5, 0},
		{5, []int{3}, true, 2, 3},
		{5, []int{3, 3}, false, 0, 5},
		{5, []int{3, 2}, true, 0, 5},
		{5, []int{3, 2, 0}, true, 0, 5},
		{5, []int{3, 2, -1}, true, 0, 5},
		{5, []int{3, 2, 1}, false, 0, 5},
		{5, []int{5}, true, 0, 5},
		{5, []int{6}, false, 0, 5},
		{5, []int{math.MaxInt}, false, 0, 5},
		{5, []int{2, math.MaxInt}, false, 0, 5},
		{5, []int{math.MinInt, -1, 0}, true, 5, 0},
		{5, []int{4, math.MinInt, 1}, true, 0, 5},
		{0, []int{0}, true, 0, 0},
		{0, []int{-7}, true, 0, 0},
		{0, []int{1}, false, 0, 0},
		{-3, []int{1}, false, 0, 0},
		{1000001, []int{1000000}, true, 0, 1000000},
		{1000001, []int{1000001}, false, 0, 1000000},
	} {
		m := meter.New(c.of)
		last := -1
		done := m.Run(func() {
			for j, n := range c.spend {
				m.Spend(n)
				last = j
			}
		})
		if done != c.done || (last == len(c.spend)-1) != c.done {
			t.Errorf("case %d: %v, ended behind %d", i, done, last)
		}
		holds(t, m, c.left, c.spent)
		spent, done := meter.Try(c.of, func(own *meter.Meter) {
			for _, n := range c.spend {
				own.Spend(n)
			}
		})
		if spent != c.spent || done != c.done {
			t.Errorf("case %d: Try: %d, %v", i, spent, done)
		}
	}
}

// P3.1: a meter goes on from one work to the next one.
func TestRunAgain(t *testing.T) {
	m := meter.New(5)
	spend := func(n int) bool { return m.Run(func() { m.Spend(n) }) }
	if !spend(2) || !spend(2) {
		t.Error("not done, though there was enough")
	}
	holds(t, m, 1, 4)
	if spend(2) {
		t.Error("done, though there wasn't enough")
	}
	holds(t, m, 0, 5)
	if !spend(0) || !spend(-1) || spend(1) || !m.Run(func() {}) {
		t.Error("a full meter")
	}
	holds(t, m, 0, 5)
}

// P3.1: outside all work what is there may be spent.
func TestSpendOutside(t *testing.T) {
	m := meter.New(5)
	m.Spend(3)
	m.Spend(-3)
	holds(t, m, 2, 3)
	if m.Run(func() { m.Spend(3) }) {
		t.Error("done")
	}
}

// P3.1: the work ends where it is, from however deep, and what it deferred is done.
func TestEndsFromDeep(t *testing.T) {
	m := meter.New(10)
	ends := 0
	var down func()
	down = func() {
		defer func() { ends++ }()
		m.Spend(1)
		down()
	}
	if m.Run(down) || ends != 11 {
		t.Errorf("%d ends", ends)
	}
	holds(t, m, 0, 10)
}

// P3.2: of two Runs of one meter, one within the other, the inner one's work ends, and the outer one's goes on.
func TestWithinItself(t *testing.T) {
	m := meter.New(4)
	var told []string
	tell := func(s string) { told = append(told, s) }
	outer := m.Run(func() {
		m.Spend(1)
		inner := m.Run(func() {
			m.Spend(9)
			tell("inner went on")
		})
		if inner {
			tell("inner done")
		}
		holds(t, m, 0, 4)
		m.Spend(0)
		tell("outer went on")
		m.Spend(1)
		tell("outer went on too far")
	})
	if outer || !slices.Equal(told, []string{"outer went on"}) {
		t.Errorf("%v, %q", outer, told)
	}
}

// P3.2: another meter's Runs that stand between let it pass, and so do they the other way round.
func TestPassesOthers(t *testing.T) {
	a, b, c := meter.New(1), meter.New(2), meter.New(3)
	var told []string
	tell := func(s string, done bool) {
		if done {
			s += " done"
		}
		told = append(told, s)
	}
	tell("a", a.Run(func() {
		tell("b", b.Run(func() {
			tell("c", c.Run(func() {
				b.Spend(3)
				tell("c went on", true)
			}))
			tell("b went on", true)
		}))
		tell("c", c.Run(func() {
			tell("b", b.Run(func() { a.Spend(2) }))
			tell("c went on", true)
		}))
		tell("a went on", true)
	}))
	tell("c", c.Run(func() { c.Spend(3) }))
	if want := []string{"b", "a", "c done"}; !slices.Equal(told, want) {
		t.Errorf("%q, want %q", told, want)
	}
	holds(t, a, 0, 1)
	holds(t, b, 0, 2)
	holds(t, c, 0, 3)
}

// P3.2: of one meter twice and another one between, the inner one of the two ends.
func TestInnermostOfItsOwn(t *testing.T) {
	a, b := meter.New(1), meter.New(1)
	var ends []bool
	ends = append(ends, a.Run(func() {
		ends = append(ends, b.Run(func() {
			ends = append(ends, a.Run(func() {
				ends = append(ends, b.Run(func() { a.Spend(2) }))
			}))
		}))
	}))
	if want := []bool{false, true, true}; !slices.Equal(ends, want) {
		t.Errorf("%v, want %v", ends, want)
	}
}

type own struct{ n *int }

// full looks like what a meter may let go up.
type full struct{ meter *meter.Meter }

// P3.2: each other panic goes up as it is, through Run and Try, and the meter may be used on.
func TestOtherPanics(t *testing.T) {
	wrong := errors.New("wrong")
	m := meter.New(5)
	for i, what := range []any{"text", 7, 0, false, wrong, errors.Join(wrong), own{new(int)}, &own{}, full{m}, m, math.Inf(1), [2]int{1, 2}} {
		if got := caught(func() { m.Run(func() { panic(what) }) }); got != what {
			t.Errorf("case %d: Run: %v went up, want %v", i, got, what)
		}
		if got := caught(func() { meter.Try(1, func(*meter.Meter) { panic(what) }) }); got != what {
			t.Errorf("case %d: Try: %v went up, want %v", i, got, what)
		}
		if got := caught(func() { m.Run(func() { meter.Try(9, func(*meter.Meter) { m.Run(func() { panic(what) }) }) }) }); got != what {
			t.Errorf("case %d: from deep: %v went up, want %v", i, got, what)
		}
	}
	holds(t, m, 5, 0)
	if !m.Run(func() { m.Spend(5) }) || m.Run(func() { m.Spend(1) }) {
		t.Error("the meter isn't what it was")
	}
}

// P3.2: what the running program itself lets go up goes up, too.
func TestRuntimePanics(t *testing.T) {
	var list []int
	var none map[int]int
	m := meter.New(5)
	for i, work := range []func(){
		func() { list[m.Left()] = 1 },
		func() { none[1] = 1 },
		func() { panic(nil) },
		func() { _ = 1 / len(list) },
	} {
		if _, ok := caught(func() { m.Run(work) }).(runtime.Error); !ok {
			t.Errorf("case %d didn't go up", i)
		}
	}
	var none2 *runtime.PanicNilError
	if err, ok := caught(func() { m.Run(func() { panic(nil) }) }).(error); !ok || !errors.As(err, &none2) {
		t.Error("a panic of nil went up as another one")
	}
}

// P3.2: what goes up last from some work tells, be it the meter's own or not.
func TestPanicWhileEnding(t *testing.T) {
	m := meter.New(1)
	if m.Run(func() {
		defer m.Spend(1)
		m.Spend(2)
	}) {
		t.Error("done")
	}
	if m.Run(func() {
		defer m.Spend(1)
		panic("text")
	}) {
		t.Error("done")
	}
	if got := caught(func() {
		m.Run(func() {
			defer func() { panic("text") }()
			m.Spend(1)
		})
	}); got != "text" {
		t.Errorf("%v went up", got)
	}
}

// P3.1: Try has a meter of its own, of so much.
func TestTry(t *testing.T) {
	for _, c := range [][2]int{{math.MinInt, 0}, {-1, 0}, {0, 0}, {5, 5}, {1000000, 1000000}, {1000001, 1000000}, {math.MaxInt, 1000000}} {
		spent, done := meter.Try(c[0], func(m *meter.Meter) { holds(t, m, c[1], 0) })
		if spent != 0 || !done {
			t.Errorf("of %d: %d, %v", c[0], spent, done)
		}
		if spent, done = meter.Try(c[0], func(m *meter.Meter) { m.Spend(c[1]) }); spent != c[1] || !done {
			t.Errorf("of %d: all of it: %d, %v", c[0], spent, done)
		}
		if spent, done = meter.Try(c[0], func(m *meter.Meter) { m.Spend(c[1] + 1) }); spent != c[1] || done {
			t.Errorf("of %d: more: %d, %v", c[0], spent, done)
		}
	}
}

// P3.2: a Try within a Try ends its own work, or the outer one's, as the meter is whose it is.
func TestTryWithinTry(t *testing.T) {
	inner, innerDone, went := 0, true, false
	spent, done := meter.Try(5, func(a *meter.Meter) {
		inner, innerDone = meter.Try(3, func(b *meter.Meter) {
			a.Spend(1)
			b.Spend(4)
			went = true
		})
		a.Spend(1)
	})
	if spent != 2 || !done || inner != 3 || innerDone || went {
		t.Errorf("%d, %v; %d, %v, %v", spent, done, inner, innerDone, went)
	}
	spent, done = meter.Try(5, func(a *meter.Meter) {
		meter.Try(3, func(b *meter.Meter) {
			b.Spend(1)
			a.Spend(6)
			went = true
		})
		went = true
	})
	if spent != 5 || done || went {
		t.Errorf("%d, %v, %v", spent, done, went)
	}
}

// Rule 1: no work at all is done at once.
func TestNoWork(t *testing.T) {
	m := meter.New(2)
	if !m.Run(nil) {
		t.Error("Run")
	}
	if spent, done := meter.Try(2, nil); spent != 0 || !done {
		t.Error("Try")
	}
}
