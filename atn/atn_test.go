package atn_test

import (
	"math"
	"slices"
	"strconv"
	"strings"
	"testing"

	"accidence/api"
	"accidence/atn"
	"accidence/gram"
	"accidence/sample"
)

// spot is a place as text: its rule, and how many symbols are passed; at the end $.
func spot(x atn.Spot) string {
	if x == (atn.Spot{Rule: -1}) {
		return "$"
	}
	return strconv.Itoa(x.Rule) + "." + strconv.Itoa(x.Dot)
}

// config is a configuration as text: its Alt, the place, and those to which one goes back.
func config(x atn.Config) string {
	var b strings.Builder
	b.WriteString(strconv.Itoa(x.Alt) + ":" + spot(x.Spot))
	for _, back := range x.Stack {
		b.WriteString("," + spot(back))
	}
	return b.String()
}

// configs is configurations as text.
func configs(list []atn.Config) string {
	var texts []string
	for _, x := range list {
		texts = append(texts, config(x))
	}
	return strings.Join(texts, " ")
}

// toSpot is the place of a text.
func toSpot(s string) atn.Spot {
	rule, dot, found := strings.Cut(s, ".")
	if !found {
		return atn.Spot{Rule: -1}
	}
	x, _ := strconv.Atoi(rule)
	y, _ := strconv.Atoi(dot)
	return atn.Spot{Rule: x, Dot: y}
}

// toConfigs is the configurations of a text.
func toConfigs(s string) []atn.Config {
	var list []atn.Config
	for one := range strings.FieldsSeq(s) {
		alt, spots, _ := strings.Cut(one, ":")
		first, rest, more := strings.Cut(spots, ",")
		x := atn.Config{Spot: toSpot(first)}
		x.Alt, _ = strconv.Atoi(alt)
		if more {
			for back := range strings.SplitSeq(rest, ",") {
				x.Stack = append(x.Stack, toSpot(back))
			}
		}
		list = append(list, x)
	}
	return list
}

// P14.1: configurations stand in one line.
func TestCompare(t *testing.T) {
	line := toConfigs("-1:9.9 0:$ 0:$,$ 0:0.0 0:0.0,$ 0:0.0,0.1 0:0.0,0.1,$ 0:0.0,0.1,0.1 0:0.0,0.1,0.2 0:0.0,0.2 0:0.0,0.2,0.0 0:0.0,1.0 0:0.0,1.0,7.7 0:0.0,10.0 0:0.1 0:0.1,0.0 0:0.2 0:0.10 0:1.0 0:1.0,9.9 0:2.0 0:10.0 1:$ 1:0.0 1:0.0,5.5 2:0.0 10:0.0")
	line = append([]atn.Config{{Alt: math.MinInt, Spot: atn.Spot{Rule: math.MaxInt}}}, line...)
	line = append(line, atn.Config{Alt: math.MaxInt, Spot: atn.Spot{Rule: math.MinInt}}, atn.Config{Alt: math.MaxInt, Spot: atn.Spot{Rule: math.MaxInt, Dot: math.MinInt}}, atn.Config{Alt: math.MaxInt, Spot: atn.Spot{Rule: math.MaxInt, Dot: math.MaxInt}})
	for i, a := range line {
		for j, b := range line {
			want := 0
			if i < j {
				want = -1
			} else if i > j {
				want = 1
			}
			b.Stack = slices.Clone(b.Stack)
			if got := atn.Compare(a, b); got != want {
				t.Errorf("%s, %s: %d, want %d", config(a), config(b), got, want)
			}
		}
	}
	if atn.Compare(atn.Config{}, atn.Config{Stack: []atn.Spot{}}) != 0 {
		t.Error("no stack isn't an empty one")
	}
}

// P14.1: the Alts, rising, each once.
func TestAlts(t *testing.T) {
	for _, c := range []struct {
		list string
		want []int
	}{
		{"", nil}, {"3:$", []int{3}}, {"3:0.0 3:0.1 3:$", []int{3}}, {"5:0.0 2:0.0 9:1.1 2:0.0 5:3.3,1.1 0:0.0", []int{0, 2, 5, 9}}, {"1:0.0 0:0.0 -1:0.0", []int{-1, 0, 1}},
	} {
		list := toConfigs(c.list)
		if got := atn.Alts(list); !slices.Equal(got, c.want) {
			t.Errorf("%s: %v, want %v", c.list, got, c.want)
		}
		if configs(list) != c.list {
			t.Errorf("%s: turned: %s", c.list, configs(list))
		}
	}
}

// P14.1: each rule of a variable, at its beginning.
func TestStart(t *testing.T) {
	n := atn.New(sample.Load("s = 'a' s | t | ; t = ; u = u | s 'b' ;"))
	for v, want := range []string{"0:0.0 1:1.0 2:2.0", "3:3.0", "4:4.0 5:5.0"} {
		if got := configs(n.Start(v)); got != want {
			t.Errorf("%d: %s, want %s", v, got, want)
		}
	}
	for _, v := range []int{math.MinInt, -2, -1, 3, 64, math.MaxInt} {
		if got := n.Start(v); len(got) != 0 {
			t.Errorf("%d: %v", v, got)
		}
	}
}

// P14.1: what stands next, at each place of a grammar, whatever one goes back to.
func TestNext(t *testing.T) {
	n := atn.New(sample.Load("s = 'a' s 'c' | 'b' t | t t 'a' ; t = | 'c' ;"))
	for _, c := range []struct {
		list string
		want int
	}{
		{"0:0.0 7:0.0 0:0.0,0.2 0:2.2 2:2.2,0.2,0.2", 0}, {"0:1.0 1:1.0,1.2", 1}, {"0:0.2 0:4.0 4:4.0,2.1,2.2", 2},
		{"0:0.1 0:1.1 0:2.0 0:2.1 0:2.1,1.2", -2}, {"0:0.3 0:1.2 0:2.3 3:3.0 3:3.0,2.1 0:4.1", -2}, {"0:$ 4:$", api.End},
	} {
		for _, x := range toConfigs(c.list) {
			if got := n.Next(x); got != c.want {
				t.Errorf("%s: %d, want %d", config(x), got, c.want)
			}
		}
	}
}

// P14.1: those that stand ahead of the terminal, in their order, are behind it; the end, and what is none, is no terminal.
func TestMove(t *testing.T) {
	n := atn.New(sample.Load("s = 'a' s 'c' | 'b' t | t t 'a' ; t = | 'c' 'c' ;"))
	const list = "5:4.1,2.1,2.2 0:0.2 3:$ 1:0.0 0:0.1 2:2.2,0.2 1:1.0 4:4.0 3:3.0,1.2 1:0.0 0:0.0,0.2"
	for _, c := range []struct {
		t    int
		want string
	}{
		{0, "1:0.1 2:2.3,0.2 1:0.1 0:0.1,0.2"}, {1, "1:1.1"}, {2, "5:4.2,2.1,2.2 0:0.3 4:4.1"},
		{3, ""}, {api.End, ""}, {-2, ""}, {-3, ""}, {^1, ""}, {math.MinInt, ""}, {math.MaxInt, ""},
	} {
		all := toConfigs(list)
		if got := configs(n.Move(all, c.t)); got != c.want {
			t.Errorf("%d: %s, want %s", c.t, got, c.want)
		}
		if configs(all) != list {
			t.Errorf("%d: turned: %s", c.t, configs(all))
		}
	}
	if got := n.Move(nil, 0); len(got) != 0 {
		t.Errorf("%v", got)
	}
}

// P14.1: what is gone to, by how many configurations in all, and how deep.
func TestClose(t *testing.T) {
	const (
		one   = "s = 'a' s 'b' | ;"
		tails = "s = t | 'x' t 'y' ; t = u ; u = v | 'd' u | ; v = 'c' ;"
	)
	for _, c := range []struct {
		text, from, to string
		all, deep      int
	}{
		// The chapter's example: ahead of a, at the end, and ahead of b.
		{one, "0:0.0 1:1.0", "0:0.0 1:$ 1:0.2", 4, 0},
		{one, "0:0.1", "0:0.0,0.2 0:0.2", 4, 1}, {one, "0:0.1,0.2", "0:0.0,0.2,0.2 0:0.2,0.2", 4, 2}, {one, "0:0.3,0.2", "0:0.2", 2, 1}, {one, "0:0.3", "0:$ 0:0.2", 3, 0}, {one, "0:0.3,0.3,0.3", "0:$ 0:0.2", 5, 2},
		// Those that stand ahead of a terminal, or at the end, go nowhere; of what is handed in each counts once.
		{one, "", "", 0, math.MinInt}, {one, "1:$", "1:$", 1, 0}, {one, "1:0.2,0.2", "1:0.2,0.2", 1, 1}, {one, "1:0.2 0:0.0 1:$ 0:0.0,0.2", "0:0.0 0:0.0,0.2 1:$ 1:0.2", 4, 1}, {one, "5:0.2 5:0.2 5:0.2 3:0.2", "3:0.2 5:0.2", 2, 0},
		// Each Alt goes on alone.
		{one, "0:0.3 1:0.3", "0:$ 0:0.2 1:$ 1:0.2", 6, 0},
		// Behind a variable at its rule's end nothing is laid, but on an empty stack.
		{tails, "0:0.0", "0:$ 0:4.0,0.1 0:6.0,0.1", 8, 1}, {tails, "0:1.1", "0:1.2 0:4.0,1.2 0:6.0,1.2", 7, 1}, {tails, "0:4.1", "0:$ 0:1.2 0:4.0,4.2 0:6.0,4.2", 10, 1}, {tails, "0:4.1,1.2", "0:1.2 0:4.0,1.2 0:6.0,1.2", 6, 1},
		// At a rule's end, with nothing to go back to, to all places behind its variable, and to the end of the word behind the start alone.
		{tails, "0:3.1", "0:$ 0:1.2", 6, 0}, {tails, "0:3.1,1.2", "0:1.2", 2, 1}, {"s = t 'a' | 'b' t t ; t = 'c' ;", "2:2.1", "2:$ 2:0.1 2:2.0,1.3", 6, 1},
		// Variables that lead to themselves with nothing laid.
		{"s = s | 'a' ;", "0:0.0 1:1.0", "0:1.0,0.1 1:1.0", 4, 1}, {"s = t t ; t = t | ;", "0:0.0", "0:$", 8, 1},
		// Variables that vanish are passed.
		{"s = t u 'a' | 'b' ; t = | 'c' ; u = t | 'd' ;", "0:0.0 1:1.0", "0:0.2 0:3.0,0.1 0:3.0,0.2 0:5.0,0.2 1:1.0", 10, 1},
	} {
		n := atn.New(sample.Load(c.text))
		for _, most := range []int{math.MinInt, c.all - 1, c.all, c.all + 1, math.MaxInt} {
			for _, deep := range []int{math.MinInt, max(c.deep, -9) - 1, c.deep, max(c.deep, -9) + 1, math.MaxInt} {
				list := toConfigs(c.from)
				got, ok := n.Close(list, deep, most)
				want := most >= c.all && deep >= c.deep
				if ok != want || !ok && len(got) > 0 || ok && configs(got) != c.to {
					t.Errorf("%s %s: %d, %d: %s, %v, want %s, %v", c.text, c.from, deep, most, configs(got), ok, c.to, want)
				}
				if configs(list) != c.from {
					t.Errorf("%s %s: turned: %s", c.text, c.from, configs(list))
				}
			}
		}
	}
}

// P14.1: to where there is no end, however much there may be.
func TestNoEnd(t *testing.T) {
	for _, c := range [][2]string{
		{"s = s 'a' | 'b' ;", "0:0.0"}, {"s = 'b' | s 'a' ;", "1:1.0"}, {"s = t | 'b' ; t = s 'a' ;", "0:0.0 1:1.0"}, {"s = s s | 'a' ;", "1:1.0 0:0.0"},
		// Ahead of the variable stands what vanishes.
		{"s = t s 'a' | 'b' ; t = ;", "0:0.0"}, {"s = t u s 'a' | 'b' ; t = u | 'c' ; u = | 'd' ;", "0:0.0"},
		// One comes there behind what is gone back to, or from a rule's end.
		{"s = 'a' t u | ; t = 'b' ; u = u 'c' | 'd' ;", "2:2.1,0.2"}, {"s = 'a' t u | ; t = 'b' ; u = u 'c' | 'd' ;", "2:2.1"}, {"s = t | 'c' u s ; t = s 'a' | 'b' ; u = 'd' ;", "4:4.1"},
		// Some ways come to an end, each by many configurations.
		{"s = t 'a' | t 'b' | s 'c' ; t = u 'a' | u 'b' | u 'c' ; u = v 'a' | v 'b' | v 'c' ; v = 'd' | ;", "0:0.0 2:2.0 1:1.0"},
	} {
		n := atn.New(sample.Load(c[0]))
		for _, most := range []int{0, 100, 100000, math.MaxInt} {
			for _, deep := range []int{0, 1, 16, 100000, math.MaxInt} {
				if got, ok := n.Close(toConfigs(c[1]), deep, most); ok || len(got) > 0 {
					t.Errorf("%s %s: %d, %d: %s, %v", c[0], c[1], deep, most, configs(got), ok)
				}
			}
		}
	}
}

// P14.1: as deep as variables can lead, each to the next one, and as many rules as there may be.
func TestDeep(t *testing.T) {
	var b strings.Builder
	for v := range api.MaxVars - 1 {
		b.WriteString(sample.Name(v) + " = " + sample.Name(v+1) + " 'a' ; ")
	}
	b.WriteString(sample.Name(api.MaxVars-1) + " = 'b' ;")
	n := atn.New(sample.Load(b.String()))
	deep := api.MaxVars - 1
	for _, c := range []struct {
		deep, most int
		want       bool
	}{{deep, api.MaxVars, true}, {math.MaxInt, math.MaxInt, true}, {deep - 1, math.MaxInt, false}, {math.MaxInt, deep, false}} {
		got, ok := n.Close(n.Start(0), c.deep, c.most)
		if ok != c.want || ok && (len(got) != 1 || len(got[0].Stack) != deep || got[0].Spot.Rule != deep || got[0].Stack[0] != (atn.Spot{Rule: 0, Dot: 1})) {
			t.Errorf("%v: %v, %v", c, got, ok)
		}
	}
	// From a stack that is as deep again.
	list := n.Start(0)
	list[0].Stack = slices.Repeat([]atn.Spot{{Rule: 3, Dot: 1}}, 1000)
	if got, ok := n.Close(list, 1000+deep, math.MaxInt); !ok || len(got) != 1 || len(got[0].Stack) != 1000+deep {
		t.Errorf("%v, %v", got, ok)
	}
	if got, ok := n.Close(list, 999+deep, math.MaxInt); ok || len(got) > 0 {
		t.Errorf("%v, %v", got, ok)
	}
	// Many configurations, each of which is deep.
	b.Reset()
	for v := range 16 {
		b.WriteString(sample.Name(v) + " = " + sample.Name(v+1) + " 'a' | " + sample.Name(v+1) + " 'b' ; ")
	}
	b.WriteString(sample.Name(16) + " = 'c' ;")
	n = atn.New(sample.Load(b.String()))
	got, ok := n.Close(n.Start(0), 16, 2+4+8*(1<<16))
	if !ok || len(got) != 1<<16 || !slices.IsSortedFunc(got, atn.Compare) {
		t.Errorf("%d, %v", len(got), ok)
	}
}

// Rule 4: what is told is new memory, what is handed in stays, and lists of one answer share none.
func TestNewMemory(t *testing.T) {
	text := "s = %2 t 'a' t | u 'b' | %nan ; t = 'b' t | ; u = 'a' s 'c' | 'c' u ;"
	g := sample.Load(text)
	n := atn.New(g)
	from := toConfigs("0:0.0 1:1.0 0:5.1 0:5.1,1.1 1:5.1,1.1,0.3 1:6.1,5.2,1.1")
	want, _ := n.Close(from, 9, 100)
	was := configs(want)
	turn(want)
	again, ok := n.Close(from, 9, 100)
	if !ok || configs(again) != was || len(again) < 10 {
		t.Fatalf("%s, %v, was %s", configs(again), ok, was)
	}
	for i := range again {
		_ = append(again[i].Stack, atn.Spot{Rule: 7})
	}
	if configs(again) != was {
		t.Errorf("%s, was %s", configs(again), was)
	}
	turn(from)
	if configs(again) != was {
		t.Errorf("%s, was %s", configs(again), was)
	}
	for at := range again {
		rest := configs(again[at+1:])
		turn(again[at : at+1])
		if configs(again[at+1:]) != rest {
			t.Errorf("%s, was %s", configs(again[at+1:]), rest)
		}
	}
	from = toConfigs("0:0.1,1.1,0.3 1:0.1,1.1")
	moved := n.Move(from, 0)
	if configs(moved) != "0:0.2,1.1,0.3 1:0.2,1.1" {
		t.Error(configs(moved))
	}
	turn(moved)
	if configs(from) != "0:0.1,1.1,0.3 1:0.1,1.1" {
		t.Error(configs(from))
	}
	moved = n.Move(from, 0)
	turn(from)
	if configs(moved) != "0:0.2,1.1,0.3 1:0.2,1.1" {
		t.Error(configs(moved))
	}
	start := n.Start(0)
	turn(start)
	if configs(n.Start(0)) != "0:0.0 1:1.0 2:2.0" || !gram.Same(g, sample.Load(text)) {
		t.Errorf("%s, %s", configs(n.Start(0)), gram.Print(g))
	}
}

// turn turns all configurations, their stacks, and what room is behind them.
func turn(list []atn.Config) {
	for i, x := range list {
		stack := x.Stack[:cap(x.Stack)]
		for j := range stack {
			stack[j] = atn.Spot{Rule: 7, Dot: 7}
		}
		list[i] = atn.Config{Alt: 7, Spot: atn.Spot{Rule: 7, Dot: 7}, Stack: x.Stack}
	}
}

// Rule 1: no call panics, whatever it is handed.
func TestNoPanic(t *testing.T) {
	wild := sample.Wild()
	var list []atn.Config
	for i, a := range wild {
		for _, b := range wild {
			x := atn.Spot{Rule: a, Dot: b}
			list = append(list, atn.Config{Alt: a, Spot: x}, atn.Config{Alt: b, Spot: atn.Spot{Rule: 0, Dot: i}, Stack: []atn.Spot{x, {Rule: b, Dot: a}}}, atn.Config{Spot: x, Stack: []atn.Spot{x}})
		}
	}
	atn.Alts(list)
	for i, a := range list {
		atn.Compare(a, list[(i*7+3)%len(list)])
	}
	nets := []*atn.Net{nil, {}}
	for _, g := range sample.Odd() {
		nets = append(nets, atn.New(g))
	}
	for _, n := range nets {
		for _, v := range wild {
			n.Start(v)
			n.Move(list, v)
			n.Close(n.Start(v), 5, 300)
			n.Close(list, 16, v)
			n.Close(list, v, 300)
		}
		for _, x := range list {
			n.Next(x)
			n.Close([]atn.Config{x}, 3, 100)
		}
	}
}
