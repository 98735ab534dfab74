package lex_test

import (
	"math"
	"slices"
	"strings"
	"testing"

	"accidence/api"
	"accidence/edge"
	"accidence/lex"
)

// same tells whether two words are one, weights as layer 1 has it.
func same(a, b lex.Token) bool {
	return a.Kind == b.Kind && a.At == b.At && a.Text == b.Text && edge.Same(a.Weight, b.Weight)
}

// right tells a fault if a text isn't told to be these words, and its end.
func right(t *testing.T, s string, want ...lex.Token) {
	t.Helper()
	want = append(want, lex.Token{Kind: lex.End, At: len(s)})
	got, fault := lex.All(s)
	if fault != (api.Fault{}) || !slices.EqualFunc(got, want, same) {
		t.Errorf("%.40q: %v, %v, want %v", s, got, fault, want)
	}
}

// wrong tells a fault if a text isn't told to be wrong in this way, at this place.
func wrong(t *testing.T, s string, e api.Errno, at int) {
	t.Helper()
	got, fault := lex.All(s)
	if len(got) != 0 || fault != (api.Fault{E: e, At: at}) {
		t.Errorf("%.40q: %d words, %v, want %d at %d", s, len(got), fault, e, at)
	}
}

func name(at int, s string) lex.Token  { return lex.Token{Kind: lex.Name, At: at, Text: s} }
func quote(at int, s string) lex.Token { return lex.Token{Kind: lex.Quote, At: at, Text: s} }
func sign(at int, s string) lex.Token  { return lex.Token{Kind: lex.Sign, At: at, Text: s} }
func weight(at int, s string, f float64) lex.Token {
	return lex.Token{Kind: lex.Weight, At: at, Text: s, Weight: f}
}

func TestKinds(t *testing.T) {
	if lex.End != 0 || lex.Name != 1 || lex.Quote != 2 || lex.Weight != 3 || lex.Sign != 4 {
		t.Error("kinds")
	}
}

// P4.1: which texts are names.
func TestIsName(t *testing.T) {
	for s, want := range map[string]bool{
		"": false, "a": true, "Z": true, "z9": true, "a_": true, "A_b_9": true, "_": false, "_a": false, "9": false, "9a": false,
		"a-b": false, "a b": false, " a": false, "a ": false, "a'": false, "a.": false, "a\x00": false, "\x00": false, "é": false, "aé": false,
		strings.Repeat("a", 24): true, strings.Repeat("a", 25): false, strings.Repeat("a", 23) + "_": true, strings.Repeat("a", 70000): false,
	} {
		if lex.IsName(s) != want {
			t.Errorf("IsName(%.40q) = %v", s, !want)
		}
	}
	for i := range 256 {
		b := string([]byte{byte(i)})
		letter := strings.Contains("abcdefghijklmnopqrstuvwxyzABCDEFGHIJKLMNOPQRSTUVWXYZ", b)
		more := letter || strings.Contains("0123456789_", b)
		if lex.IsName(b) != letter || lex.IsName("x"+b) != more || lex.IsName("x"+b+"x") != more {
			t.Errorf("byte %d", i)
		}
	}
}

// P4.1: which texts may stand in quotes.
func TestIsQuote(t *testing.T) {
	for s, want := range map[string]bool{
		"": false, "a": true, " ": true, "~": true, "#": true, "%1": true, "9": true, "=;|()?*+": true, "\"": true, "\\": true, "'": false, "a'": false, "'a": false,
		"\x1f": false, "\x7f": false, "a\tb": false, "a\n": false, "é": false, "\xff": false,
		strings.Repeat("a", 16): true, strings.Repeat("a", 17): false, strings.Repeat(" ", 16): true, strings.Repeat("a", 70000): false,
	} {
		if lex.IsQuote(s) != want {
			t.Errorf("IsQuote(%.40q) = %v", s, !want)
		}
	}
	for i := range 256 {
		b := string([]byte{byte(i)})
		want := i >= 32 && i <= 126 && i != 39
		if lex.IsQuote(b) != want || lex.IsQuote("x"+b) != want || lex.IsQuote(b+"x") != want {
			t.Errorf("byte %d", i)
		}
	}
}

// P4.1: the chapter's examples.
func TestExamples(t *testing.T) {
	right(t, "e = %-0 'a' e? ;", name(0, "e"), sign(2, "="), weight(4, "-0", math.Copysign(0, -1)), quote(8, "a"), name(12, "e"), sign(13, "?"), sign(15, ";"))
	wrong(t, "e = 'a", api.ErrQuote, 4)
}

// P4.1: words of each kind, as long as they can be, with blanks between them or none.
func TestWords(t *testing.T) {
	long := strings.Repeat("Ab_9", 6)
	full := strings.Repeat("a (", 5) + "~"
	right(t, "")
	right(t, " \t\r\n ")
	right(t, "a", name(0, "a"))
	right(t, "ab_9Z z", name(0, "ab_9Z"), name(6, "z"))
	right(t, long, name(0, long))
	right(t, " "+long+" ", name(1, long))
	right(t, "=;|()?*+", sign(0, "="), sign(1, ";"), sign(2, "|"), sign(3, "("), sign(4, ")"), sign(5, "?"), sign(6, "*"), sign(7, "+"))
	right(t, "'a'", quote(0, "a"))
	right(t, "'a''b'c", quote(0, "a"), quote(3, "b"), name(6, "c"))
	right(t, "' '' # '", quote(0, " "), quote(3, " # "))
	right(t, "'"+full+"'", quote(0, full))
	right(t, "'%1';'=';'9'", quote(0, "%1"), sign(4, ";"), quote(5, "="), sign(8, ";"), quote(9, "9"))
	right(t, "a'a'a", name(0, "a"), quote(1, "a"), name(4, "a"))
	right(t, "a%1;a", name(0, "a"), weight(1, "1", 1), sign(3, ";"), name(4, "a"))
	right(t, "%1 a", weight(0, "1", 1), name(3, "a"))
	right(t, "%1'a'%2(%3)", weight(0, "1", 1), quote(2, "a"), weight(5, "2", 2), sign(7, "("), weight(8, "3", 3), sign(10, ")"))
	right(t, "%1%2", weight(0, "1", 1), weight(2, "2", 2))
	right(t, "a\tb\rc\nd", name(0, "a"), name(2, "b"), name(4, "c"), name(6, "d"))
}

// P4.1: weights are those of layer 1, and any other run of their bytes is none.
func TestWeights(t *testing.T) {
	for s, f := range map[string]float64{
		"0": 0, "-0": math.Copysign(0, -1), "-0.0": math.Copysign(0, -1), "12": 12, "1.50": 1.5, "-7.25": -7.25, "999999999.999999": 999999999.999999, "0.000001": 0.000001,
		"nan": math.NaN(), "inf": math.Inf(1), "-inf": math.Inf(-1),
	} {
		right(t, "%"+s, weight(0, s, f))
		right(t, " %"+s+"\t", weight(1, s, f))
		right(t, "%"+s+"+", weight(0, s, f), sign(1+len(s), "+"))
		right(t, "%"+s+"#", weight(0, s, f))
	}
	for _, s := range []string{"", "-", ".", "01", "1.", ".5", "1e3", "1234567890", "1.1234567", "NaN", "-nan", "Inf", "infx", "1a", "--1", "1-2", "1.2.3", "a", "nan1", "0x1", strings.Repeat("1", 60000)} {
		wrong(t, "%"+s, api.ErrWeight, 0)
		wrong(t, "a = %"+s+" ;", api.ErrWeight, 4)
		wrong(t, "%"+s+"%", api.ErrWeight, 0)
	}
	wrong(t, "% 1", api.ErrWeight, 0)
	wrong(t, "%%1", api.ErrWeight, 0)
	wrong(t, "%+1", api.ErrWeight, 0)
	wrong(t, "%1_", api.ErrChar, 2)
	wrong(t, "%1,5", api.ErrChar, 2)
	wrong(t, "%\xff", api.ErrWeight, 0)
}

// P4.1: a name of more than 24 bytes.
func TestLongNames(t *testing.T) {
	for n := range 30 {
		s := strings.Repeat("n", n+1)
		if n+1 <= 24 {
			right(t, "; "+s+";", sign(0, ";"), name(2, s), sign(3+n, ";"))
		} else {
			wrong(t, "; "+s+";", api.ErrLong, 2)
		}
	}
	wrong(t, strings.Repeat("n", 65536), api.ErrLong, 0)
	wrong(t, strings.Repeat("n_9", 9)+"'", api.ErrLong, 0)
}

// P4.1: quotes that are none, or too long; that there is no end comes ahead of that.
func TestWrongQuotes(t *testing.T) {
	long := strings.Repeat("q", 17)
	for _, c := range []struct {
		s  string
		e  api.Errno
		at int
	}{
		{"'", api.ErrQuote, 0},
		{"''", api.ErrQuote, 0},
		{"'''", api.ErrQuote, 0},
		{"'a''", api.ErrQuote, 3},
		{"''a'", api.ErrQuote, 0},
		{"'a\n'", api.ErrQuote, 0},
		{"'\t'", api.ErrQuote, 0},
		{"'a\x7f'", api.ErrQuote, 0},
		{"'é'", api.ErrQuote, 0},
		{"'\x00'", api.ErrQuote, 0},
		{"'a # ", api.ErrQuote, 0},
		{"a 'b' 'c", api.ErrQuote, 6},
		{"'" + long + "'", api.ErrLong, 0},
		{" '" + long + "' '", api.ErrLong, 1},
		{"'" + long, api.ErrQuote, 0},
		{"'" + long + "\n'", api.ErrQuote, 0},
		{"'" + strings.Repeat("q", 60000) + "'", api.ErrLong, 0},
		{"'" + strings.Repeat("q", 60000), api.ErrQuote, 0},
	} {
		wrong(t, c.s, c.e, c.at)
	}
}

// P4.1: bytes with which no word begins; and the first place that is wrong is the one that is told.
func TestWrongBytes(t *testing.T) {
	for i := range 256 {
		b := string([]byte{byte(i)})
		switch {
		case lex.IsName(b):
			right(t, b, name(0, b))
		case strings.Contains("=;|()?*+", b):
			right(t, b, sign(0, b))
		case strings.Contains(" \t\r\n#", b):
			right(t, b)
		case b == "'":
			wrong(t, b, api.ErrQuote, 0)
		case b == "%":
			wrong(t, b, api.ErrWeight, 0)
		default:
			wrong(t, b, api.ErrChar, 0)
			wrong(t, "a "+b+" '", api.ErrChar, 2)
			wrong(t, "#"+b+"\n"+b, api.ErrChar, 3)
		}
	}
	wrong(t, "_ '", api.ErrChar, 0)
	wrong(t, "' _", api.ErrQuote, 0)
	wrong(t, "% _ '", api.ErrWeight, 0)
	wrong(t, "a9 9", api.ErrChar, 3)
	wrong(t, "\v", api.ErrChar, 0)
	wrong(t, "a\fb", api.ErrChar, 1)
	wrong(t, "a\u00a0b", api.ErrChar, 1)
	wrong(t, "-1", api.ErrChar, 0)
}

// P4.1: remarks go from # to the end of the line, or of the text, and may hold anything.
func TestRemarks(t *testing.T) {
	right(t, "#")
	right(t, "# all of it ' % \x00 \xff é #")
	right(t, "a#b\nc", name(0, "a"), name(4, "c"))
	right(t, "a # b # c\n# d\n\n#e\n  f", name(0, "a"), name(20, "f"))
	right(t, "a#b\rc\td", name(0, "a"))
	right(t, "'a'#\n'b'", quote(0, "a"), quote(5, "b"))
	right(t, "%1#2\n;", weight(0, "1", 1), sign(5, ";"))
	right(t, "#\n#\n", []lex.Token{}...)
	wrong(t, "# '\n'", api.ErrQuote, 4)
	wrong(t, "'a#'b'\n", api.ErrQuote, 5)
}

// P4.1: a text of up to 65536 bytes may be, whatever it holds; a longer one is too long, at 0.
func TestLongTexts(t *testing.T) {
	right(t, strings.Repeat(" ", 65536))
	right(t, "#"+strings.Repeat("x", 65535))
	right(t, strings.Repeat(" ", 65535)+"a", name(65535, "a"))
	for _, s := range []string{strings.Repeat(" ", 65537), strings.Repeat("a ", 32769), "#" + strings.Repeat("x", 65536), strings.Repeat(";", 65537), strings.Repeat(" ", 65537) + "'", "a '" + strings.Repeat("x", 70000), "_" + strings.Repeat(" ", 65536)} {
		wrong(t, s, api.ErrLong, 0)
	}
	got, fault := lex.All(strings.Repeat(";", 65536))
	if len(got) != 65537 || fault.E != api.OK || got[65535].At != 65535 {
		t.Errorf("%d words, %v", len(got), fault)
	}
}

// Rule 4: what is told is new memory.
func TestNewMemory(t *testing.T) {
	const s = "a = 'b' %1 ;"
	first, _ := lex.All(s)
	kept := slices.Clone(first)
	second, _ := lex.All(s)
	for i := range second {
		second[i] = lex.Token{Kind: 9, At: 9, Text: "x", Weight: 9}
	}
	if !slices.EqualFunc(first, kept, same) {
		t.Error("what was told was turned")
	}
	if third, _ := lex.All(s); !slices.EqualFunc(third, kept, same) {
		t.Error("what is told was turned")
	}
}
