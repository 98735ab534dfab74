package lex_test

import (
	"regexp"
	"slices"
	"strings"
	"testing"

	"accidence/api"
	"accidence/edge"
	"accidence/lex"
)

var (
	blanks  = regexp.MustCompile("^(?:[ \t\r\n]|#[^\n]*)+")
	names   = regexp.MustCompile("^[a-zA-Z][a-zA-Z0-9_]*")
	quotes  = regexp.MustCompile("^'([\\x20-\\x26\\x28-\\x7e]+)'")
	weights = regexp.MustCompile("^%([0-9a-zA-Z.-]*)")
	signs   = regexp.MustCompile("^[=;|()?*+]")
)

// byPatterns is a text's words, found by patterns.
func byPatterns(s string) ([]lex.Token, api.Fault) {
	var list []lex.Token
	at := 0
	for {
		at += len(blanks.FindString(s[at:]))
		rest := s[at:]
		if rest == "" {
			return append(list, lex.Token{Kind: lex.End, At: at}), api.Fault{}
		}
		word, all, e := lex.Token{At: at}, "", api.OK
		if m := names.FindString(rest); m != "" {
			word.Kind, word.Text, all = lex.Name, m, m
			if len(m) > 24 {
				e = api.ErrLong
			}
		} else if m := signs.FindString(rest); m != "" {
			word.Kind, word.Text, all = lex.Sign, m, m
		} else if m := weights.FindStringSubmatch(rest); m != nil {
			word.Kind, word.Text, all = lex.Weight, m[1], m[0]
			f, ok := edge.Read(m[1])
			word.Weight = f
			if !ok {
				e = api.ErrWeight
			}
		} else if m := quotes.FindStringSubmatch(rest); m != nil {
			word.Kind, word.Text, all = lex.Quote, m[1], m[0]
			if len(m[1]) > 16 {
				e = api.ErrLong
			}
		} else if strings.HasPrefix(rest, "'") {
			e = api.ErrQuote
		} else {
			e = api.ErrChar
		}
		if e != api.OK {
			return nil, api.Fault{E: e, At: at}
		}
		list = append(list, word)
		at += len(all)
	}
}

// agrees tells a fault if a text isn't gone through as by patterns.
func agrees(t *testing.T, s string) {
	t.Helper()
	got, fault := lex.All(s)
	want, wantFault := byPatterns(s)
	if fault != wantFault || !slices.EqualFunc(got, want, same) {
		t.Fatalf("%q: %v, %v, want %v, %v", s, got, fault, want, wantFault)
	}
}

// P4.1: all texts of up to two bytes, and of up to five of some bytes.
func TestShortTexts(t *testing.T) {
	for i := range 256 {
		for j := range 256 {
			agrees(t, string([]byte{byte(i), byte(j)}))
		}
	}
	list := []string{""}
	for range 5 {
		var longer []string
		for _, s := range list {
			for _, b := range "a1_'%-. #\n;" {
				agrees(t, s+string(b))
				longer = append(longer, s+string(b))
			}
		}
		list = longer
	}
}

// pieces are parts of texts, right and wrong ones.
var pieces = []string{"a", "b9", "Name_1", "=", ";", "|", "(", ")", "?", "*", "+", "'x'", "'it is'", "''", "'", "%1", "%-0", "%nan", "%x", "%", "_", "9", "#", "# r\n", "\n", " ", "\t", "\r", ".", "-", "-inf", "\x00", "é", "\xff", "abcdefghijklmnop", "'0123456789abcdef'"}

// P4.1: texts of pieces, laid one behind the other.
func TestLongerTexts(t *testing.T) {
	seed := uint64(7)
	for range 30000 {
		var s strings.Builder
		for range 12 {
			seed = seed*6364136223846793005 + 1442695040888963407
			// Wrong pieces would end most texts early, so some of them are left out of half of the texts.
			n := len(pieces)
			if seed>>63 == 0 {
				n = 13
			}
			s.WriteString(pieces[seed>>33%uint64(n)])
			if seed>>60&3 == 0 {
				s.WriteByte(' ')
			}
		}
		agrees(t, s.String())
	}
}

// between are blanks and remarks that may stand between two words.
var between = []string{" ", "\t", "\r\n", "\n\n", " #\n", "# 'x' % _\n", "\t# a # b\x00\n\n ", "#\xff\r\n#\n"}

// words are some words, any of which may stand behind any other one.
var words = []string{"a", "Name_1", "=", ";", "|", "(", ")", "?", "*", "+", "'x'", "' # '", "%1", "%-0.50", "%nan", "%-inf"}

// P4.2: whichever blanks and remarks stand between words, ahead and behind, their kinds, texts and weights are the same.
func TestBlanksTurnNothing(t *testing.T) {
	seed := uint64(3)
	roll := func(n int) int {
		seed = seed*6364136223846793005 + 1442695040888963407
		return int(seed >> 33 % uint64(n))
	}
	for range 3000 {
		var list []string
		for range roll(9) {
			list = append(list, words[roll(len(words))])
		}
		plain, fault := lex.All(strings.Join(list, " "))
		if fault.E != api.OK || len(plain) != len(list)+1 {
			t.Fatalf("%q: %v, %v", list, plain, fault)
		}
		var s strings.Builder
		s.WriteString(between[roll(len(between))])
		var at []int
		for _, w := range list {
			at = append(at, s.Len())
			s.WriteString(w)
			s.WriteString(between[roll(len(between))])
		}
		at = append(at, s.Len())
		got, fault := lex.All(s.String())
		for i := range plain {
			plain[i].At = at[i]
		}
		if fault.E != api.OK || !slices.EqualFunc(got, plain, same) {
			t.Fatalf("%q: %v, %v, want %v", s.String(), got, fault, plain)
		}
	}
}

// P4.2: blanks and remarks ahead of what is wrong move its place, and turn nothing else.
func TestBlanksMoveFaults(t *testing.T) {
	for _, c := range []string{"'", "''", "'a", "%", "%x", "_", "9", "\xff", "abcdefghijklmnopqrstuvwxyz", "'abcdefghijklmnopq'"} {
		_, plain := lex.All(c)
		for _, b := range between {
			for _, w := range words {
				got, fault := lex.All(w + b + c + "\n")
				if len(got) != 0 || fault.E != plain.E || fault.At != len(w+b) {
					t.Fatalf("%q: %v, want %d at %d", w+b+c+"\n", fault, plain.E, len(w+b))
				}
			}
		}
	}
}
