package gram_test

import (
	"math"
	"slices"
	"strings"
	"testing"

	"accidence/api"
	"accidence/gram"
)

// P6.1: a right grammar's text, to the letter.
func TestPrint(t *testing.T) {
	for i, c := range []struct {
		g    api.Grammar
		want string
	}{
		{grammar("", "s", rule(0)), "s = ;\n"},
		{grammar("", "s", rule(0), rule(0, 0)), "s = | s ;\n"},
		{grammar("", "s", rule(0, 0), rule(0)), "s = s | ;\n"},
		{plain(), "s = 'a' s t | %1.5 'b' ;\nt = | 'b' t ;\n"},
		{grammar("a b", "s g1", rule(0, 1, ^1), weighed(1.5, 0, ^0), rule(1, 0), rule(1)), "s = g1 'b' | %1.5 'a' ;\ng1 = s | ;\n"},
		{grammar("", "s t u", weighed(2, 0), weighed(below, 0, 1), weighed(math.NaN(), 1), weighed(math.Inf(1), 1, 0), weighed(math.Inf(-1), 1, 2), weighed(0.25, 2), rule(2, 2)), "s = %2 | %-0 t ;\nt = %nan | %inf s | %-inf u ;\nu = %0.25 | u ;\n"},
		{api.Grammar{Terms: []string{" ", "#", "%1", ";", "it is", "|"}, Vars: []string{"Name_1"}, Rules: []api.Rule{rule(0, ^0, ^1, ^2), rule(0, ^3, ^4, ^5, ^0)}}, "Name_1 = ' ' '#' '%1' | ';' 'it is' '|' ' ' ;\n"},
	} {
		if !gram.Right(c.g) {
			t.Errorf("case %d isn't right", i)
		}
		if got := gram.Print(c.g); got != c.want {
			t.Errorf("case %d: %q, want %q", i, got, c.want)
		}
		loads(t, c.want, c.g)
	}
}

// P6.1: a text's terminals, by the terminals' texts, without quotes.
func TestWord(t *testing.T) {
	g := api.Grammar{Terms: []string{" ", "#", "a", "a b", "ab", "b", "~"}, Vars: []string{"s"}, Rules: []api.Rule{rule(0, ^0, ^1, ^2, ^3, ^4, ^5, ^6)}}
	if !gram.Right(g) {
		t.Fatal("the grammar isn't right")
	}
	for s, want := range map[string][]int{
		"": nil, " ": nil, " \t\r\n ": nil,
		"a": {2}, "a b": {2, 5}, "ab": {4}, "b a": {5, 2}, "  a\tb\rab\n~  ": {2, 5, 4, 6}, "a a a": {2, 2, 2}, "# a\n# b": {1, 2, 1, 5}, "\na": {2}, "a\r\n\r\n": {2},
	} {
		got, at := gram.Word(g, s)
		if at != -1 || !slices.Equal(got, want) {
			t.Errorf("%q: %v, %d, want %v", s, got, at, want)
		}
	}
	// What isn't a terminal, told by how many pieces are ahead of it.
	for s, want := range map[string]int{
		"c": 0, " c": 0, "a c": 1, "  a  b\t\tc a": 2, "a c d": 1, "ba": 0, "a ba": 1, "A": 0, "s": 0, "a s": 1, "'a'": 0, "a 'b'": 1, "aa": 0, "a, b": 0, "-1": 0, "0": 0,
		"a\vb": 0, "a\fb": 0, "a\x00": 0, "a\u00a0b": 0, "a \u2003": 1, "a\u0085b": 0, "\xff": 0, "a \xff": 1, "a b ab é": 3, "a\xc2": 0, "~~": 0,
	} {
		got, at := gram.Word(g, s)
		if at != want || len(got) != 0 {
			t.Errorf("%q: %v, %d, want %d", s, got, at, want)
		}
	}
	if got, at := gram.Word(grammar("", "s", rule(0)), "a"); at != 0 || len(got) != 0 {
		t.Errorf("without terminals: %v, %d", got, at)
	}
	got, at := gram.Word(g, strings.Repeat("a b ", 50000))
	if at != -1 || len(got) != 100000 || got[99999] != 5 {
		t.Errorf("a long word: %d, %d", len(got), at)
	}
	got, at = gram.Word(g, strings.Repeat("a ", 50000)+"c")
	if at != 50000 || len(got) != 0 {
		t.Errorf("a long word that is none: %d, %d", len(got), at)
	}
}
