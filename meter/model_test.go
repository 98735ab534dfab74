package meter_test

import (
	"slices"
	"testing"

	"accidence/meter"
)

// step is a piece of work: some is spent, some work is run by a meter, or something goes up.
type step struct {
	kind, who, n int
	work         []step
}

const (
	spends = iota
	runs
	throws
	kinds
)

// dice gives numbers that are always the same ones.
type dice uint64

func (d *dice) roll(n int) int {
	*d = *d*6364136223846793005 + 1442695040888963407
	return int(uint64(*d) >> 33 % uint64(n))
}

// some is some steps with up to so many levels of work within work.
func some(d *dice, deep int) []step {
	list := make([]step, d.roll(4))
	for i := range list {
		list[i] = step{kind: d.roll(kinds), who: d.roll(3), n: d.roll(6) - 1}
		switch {
		case list[i].kind == runs && deep > 0:
			list[i].work = some(d, deep-1)
		case list[i].kind == throws && d.roll(3) > 0:
			list[i].kind = spends
		}
	}
	return list
}

// model goes through steps without any panic: what ends them is told: -1 nothing, 0 to 2 that meter, 3 something else.
type model struct {
	left, spent [3]int
	told        []bool
}

func (m *model) do(list []step) int {
	for _, s := range list {
		switch s.kind {
		case spends:
			if n := max(s.n, 0); n > m.left[s.who] {
				m.spent[s.who] += m.left[s.who]
				m.left[s.who] = 0
				return s.who
			} else {
				m.spent[s.who] += n
				m.left[s.who] -= n
			}
		case throws:
			return 3
		case runs:
			end := m.do(s.work)
			if end >= 0 && end != s.who {
				return end
			}
			m.told = append(m.told, end < 0)
		}
	}
	return -1
}

// real goes through steps with three meters.
type real struct {
	meters [3]*meter.Meter
	told   []bool
}

func (r *real) do(list []step) {
	for _, s := range list {
		m := r.meters[s.who]
		switch s.kind {
		case spends:
			m.Spend(s.n)
		case throws:
			panic("other")
		case runs:
			done := m.Run(func() { r.do(s.work) })
			r.told = append(r.told, done)
		}
	}
}

// P3.1, P3.2: meters answer as a model of them does, however their work stands within one another.
func TestModel(t *testing.T) {
	d := dice(1)
	done, full, other := 0, 0, 0
	for range 20000 {
		var m model
		var r real
		for i := range r.meters {
			m.left[i] = d.roll(8)
			r.meters[i] = meter.New(m.left[i])
		}
		list := some(&d, 5)
		// What is spent outside all work may end in any way, so all of it stands in work of each meter.
		for who := range r.meters {
			list = []step{{kind: runs, who: who, work: list}}
		}
		end := m.do(list)
		got := caught(func() { r.do(list) })
		if (got == nil) != (end < 0) || (got == "other") != (end == 3) || !slices.Equal(m.told, r.told) {
			t.Fatalf("%v: %v went up, %v; want %d, %v", list, got, r.told, end, m.told)
		}
		for i, one := range r.meters {
			holds(t, one, m.left[i], m.spent[i])
		}
		if end == 3 {
			other++
		}
		for _, ok := range m.told {
			if ok {
				done++
			} else {
				full++
			}
		}
	}
	if min(done, full, other) < 1000 {
		t.Errorf("too few of some kind: %d done, %d full, %d other", done, full, other)
	}
}
