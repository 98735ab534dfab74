package read_test

import (
	"slices"
	"strings"
	"testing"

	"accidence/api"
	"accidence/lex"
	"accidence/read"
	"accidence/sample"
)

// The states of a text that is gone through word by word, by what may come next.
const (
	first     = iota // a definition's name
	between          // a definition's name, or the end
	named            // =
	begun            // a weight, or what may come within
	within           // an item, or what ends an alternative
	withItem         // a sign that belongs to an item, or what may come within
	ended            // nothing
	misplaced        // nothing: a word couldn't come
)

// walk is a state, and how many brackets are open.
type walk struct{ state, deep int }

// step is the state behind a word.
func (w walk) step(word lex.Token) (walk, api.Errno) {
	sign := "no sign"
	if word.Kind == lex.Sign {
		sign = word.Text
	}
	inside := w.state == begun || w.state == within || w.state == withItem
	switch {
	case w.state == first || w.state == between:
		if word.Kind == lex.Name {
			return walk{named, 0}, api.OK
		}
		if word.Kind == lex.End && w.state == between {
			return walk{ended, 0}, api.OK
		}
	case w.state == named && sign == "=":
		return walk{begun, 0}, api.OK
	case w.state == begun && word.Kind == lex.Weight:
		return walk{within, w.deep}, api.OK
	case w.state == withItem && (sign == "?" || sign == "*" || sign == "+"):
		return walk{within, w.deep}, api.OK
	case inside && (word.Kind == lex.Name || word.Kind == lex.Quote):
		return walk{withItem, w.deep}, api.OK
	case inside && sign == "|":
		return walk{begun, w.deep}, api.OK
	case inside && sign == "(" && w.deep == 16:
		return walk{misplaced, 0}, api.ErrDeep
	case inside && sign == "(":
		return walk{begun, w.deep + 1}, api.OK
	case inside && sign == ")" && w.deep > 0:
		return walk{withItem, w.deep - 1}, api.OK
	case inside && sign == ";" && w.deep == 0:
		return walk{between, 0}, api.OK
	}
	return walk{misplaced, 0}, api.ErrWant
}

// fault is what is wrong with words, by steps.
func fault(words []lex.Token) api.Fault {
	var w walk
	for _, word := range words {
		next, e := w.step(word)
		if e != api.OK {
			return api.Fault{E: e, At: word.At}
		}
		w = next
	}
	return api.Fault{}
}

// agrees tells a fault if a text of right words hasn't the fault that it has by steps, or isn't told, written again, by just its words, with each place where it is.
func agrees(t *testing.T, s string) {
	t.Helper()
	words, f := lex.All(s)
	if f.E != api.OK {
		t.Fatalf("%q: %v", s, f)
	}
	want := fault(words)
	got, f := read.Parse(s)
	if f != want || (f.E != api.OK && got != nil) {
		t.Fatalf("%q: %v, %v, want %v", s, got, f, want)
	}
	if f.E != api.OK {
		return
	}
	var w writer
	w.defs(got)
	if !slices.EqualFunc(w.words, words[:len(words)-1], written.is) {
		t.Fatalf("%q: %v, which is %v", s, got, w.words)
	}
}

// longer goes through all texts of a right beginning and some words more, of which the ones behind what is wrong are not turned.
func longer(t *testing.T, s string, w walk, more int, alphabet []string) {
	for _, text := range alphabet {
		long := s + " " + text
		agrees(t, long)
		words, _ := lex.All(text)
		next, e := w.step(words[0])
		if e == api.OK && more > 1 {
			longer(t, long, next, more-1, alphabet)
		}
	}
}

// P5.1: all texts of some words.
func TestShortTexts(t *testing.T) {
	alphabet := []string{"a", "'b'", "%2", "=", ";", "|", "(", ")", "?", "*", "+"}
	agrees(t, "")
	longer(t, "", walk{}, 6, alphabet)
	longer(t, "e =", walk{begun, 0}, 5, alphabet)
	few := []string{"a", "%2", ";", "|", "(", ")", "?"}
	longer(t, "e =", walk{begun, 0}, 6, few)
	longer(t, "e = (", walk{begun, 1}, 6, few)
	longer(t, "e = ( ( a", walk{withItem, 2}, 5, few)
	longer(t, "e = "+strings.Repeat("(", 15), walk{begun, 15}, 5, few)
}

// pieces are right words; none is like another one's beginning.
var pieces = []string{"a", "Name_1", "'x'", "'( ; |'", "%1.50", "%-0", "%nan", "%-inf", "=", ";", ";", "|", "|", "(", "(", "(", ")", ")", "?", "*", "+"}

// P5.1: longer texts, right ones for the most part of the way: a word that can't come is mostly rolled again.
func TestLongerTexts(t *testing.T) {
	r := sample.Roll(5)
	right := 0
	for range 20000 {
		var s strings.Builder
		var w walk
		for range 4 + r.Of(60) {
			text := pieces[r.Of(len(pieces))]
			words, _ := lex.All(text)
			next, e := w.step(words[0])
			if e != api.OK && r.Of(200) > 0 {
				continue
			}
			s.WriteString(text)
			s.WriteString(gap(&r))
			w = next
			if e != api.OK {
				break
			}
		}
		agrees(t, s.String())
		if w.state == between {
			right++
		}
	}
	if right < 100 {
		t.Errorf("%d right texts only", right)
	}
}

// gap is blanks and remarks that may stand between two words.
func gap(r *sample.Roll) string {
	return []string{" ", "\t", "\r\n", "\n\n  ", " #\n", "# ' ( % _\n", "#\xff;\r\n#\n "}[r.Of(7)]
}
