package edge_test

import (
	"math"
	"math/big"
	"regexp"
	"strconv"
	"strings"
	"testing"

	"accidence/edge"
)

var decimal = regexp.MustCompile(`^-?(0|[1-9][0-9]{0,8})(\.[0-9]{1,6})?$`)

// weightOf is the weight of a text by the document's words, from exact numbers.
func weightOf(s string) (float64, bool) {
	switch s {
	case "nan":
		return math.NaN(), true
	case "inf":
		return math.Inf(1), true
	case "-inf":
		return math.Inf(-1), true
	}
	if !decimal.MatchString(s) {
		return 0, false
	}
	exact, _ := new(big.Rat).SetString(strings.TrimPrefix(s, "-"))
	f, _ := exact.Float64()
	if strings.HasPrefix(s, "-") {
		return math.Copysign(f, -1), true
	}
	return f, true
}

// checkRead holds what Read tells of a text against the document's words.
func checkRead(t *testing.T, s string) {
	t.Helper()
	want, right := weightOf(s)
	got, ok := edge.Read(s)
	if ok != right || math.IsNaN(got) != math.IsNaN(want) || !math.IsNaN(got) && !sameBits(got, want) {
		t.Errorf("Read(%q) = %v, %v, want %v, %v", s, got, ok, want, right)
	}
}

func TestReadOfWeights(t *testing.T) {
	for s, want := range map[string]float64{
		"0": 0, "-0": below, "0.0": 0, "-0.0": below, "-0.000000": below, "0.000000": 0,
		"7": 7, "-7": -7, "12": 12, "10": 10, "100.001": 100.001, "1.250": 1.25, "-7.10": -7.1, "0.1": 0.1, "-0.5": -0.5,
		"0.000001": 1e-6, "-0.000001": -1e-6, "0.100000": 0.1, "16777217": 16777217, "0.300000": 0.3,
		"999999999": 999999999, "-999999999": -999999999, "999999999.999999": 999999999.999999, "123456789.123456": 123456789.123456, "-999999999.999999": -999999999.999999,
		"inf": math.Inf(1), "-inf": math.Inf(-1),
	} {
		if got, ok := edge.Read(s); !ok || !sameBits(got, want) {
			t.Errorf("Read(%q) = %v, %v, want %v", s, got, ok, want)
		}
	}
	if got, ok := edge.Read("nan"); !ok || !math.IsNaN(got) {
		t.Errorf("Read of nan = %v, %v", got, ok)
	}
}

func TestReadOfNone(t *testing.T) {
	for _, s := range []string{
		"", "-", ".", "-.", "+", "+1", "+0", "+inf", "--1", "---", "1-", "1-1", "- 1", " 1", "1 ", "1\n", "\t1", "1\x00",
		"01", "00", "-01", "-00", "00.5", "01.5", "000000000", "1.", "-1.", "0.", ".5", "-.5", "1..5", "1.2.3", "1.-2", "1.+2", "1. 5",
		"1234567890", "-1234567890", "1000000000", "1000000000.5", "0000000001", "1.1234567", "0.0000000", "0.0000010", "-0.0000001",
		"1e3", "1E3", "1e-3", "0x1", "0x1p4", "1_0", "1,5", "1f", "0b1", "0o7", "1/2", "1%", "%1",
		"NaN", "NAN", "Nan", "-nan", "+nan", "nan ", "nan0", "na", "Inf", "INF", "-Inf", "-INF", "--inf", "inf ", " inf", "in", "infi", "infinity", "-infinity", "Infinity",
		"١", "1١", "１", "1．5", "−1", "½", "∞", "1.\xff", "\xff", strings.Repeat("1", 70000), "0." + strings.Repeat("0", 70000), strings.Repeat("-", 70000),
	} {
		if got, ok := edge.Read(s); ok || !sameBits(got, 0) {
			t.Errorf("Read(%.40q) = %v, %v, want 0, false", s, got, ok)
		}
	}
}

// P1.1: of all short texts of some bytes, and of all lengths of digits.
func TestReadOfShortTexts(t *testing.T) {
	const bytes = "-.019einf+ "
	texts := []string{""}
	for from, n := 0, 0; n < 4; n++ {
		for to := len(texts); from < to; from++ {
			for i := range len(bytes) {
				texts = append(texts, texts[from]+bytes[i:i+1])
			}
		}
	}
	for _, s := range texts {
		checkRead(t, s)
	}
	for whole := range 13 {
		for part := range 10 {
			for _, d := range []string{"0", "1", "9"} {
				for _, head := range []string{"", "-", "0", "5"} {
					s := head + strings.Repeat(d, whole)
					checkRead(t, s)
					checkRead(t, s+"."+strings.Repeat(d, part))
				}
			}
		}
	}
}

func TestReadOfAllBytes(t *testing.T) {
	for b := range 256 {
		c := string([]byte{byte(b)})
		for _, s := range []string{c, c + "1", "1" + c, "1" + c + "5", "1.5" + c, "-" + c + "1", "in" + c} {
			checkRead(t, s)
		}
	}
}

// samples is weights' texts by digits, those of few ones and of all.
func samples() []string {
	var list []string
	seed := uint64(7)
	for range 4000 {
		seed = seed*6364136223846793005 + 1442695040888963407
		n := int64(seed >> 14 % 1000000000000000)
		for _, cut := range []int64{1, 1000, 1000000, 1000000000, 100000000000000} {
			m := n / cut
			digits := strconv.FormatInt(m%1000000+1000000, 10)[1:]
			s := strconv.FormatInt(m/1000000, 10) + "." + digits
			list = append(list, s, "-"+s)
		}
	}
	return list
}

// shortest is a text by digits without what may be left out of it: there is no other one so short, as no two texts without that tell one number.
func shortest(s string) string {
	if strings.Contains(s, ".") {
		s = strings.TrimRight(strings.TrimRight(s, "0"), ".")
	}
	return s
}

// P1.1, P1.2: Text tells the shortest text, of which the same is read.
func TestTextOfWhatWasRead(t *testing.T) {
	list := append(samples(), "0", "-0", "0.0", "-0.000", "5", "10", "100", "-10", "1.50", "1.250", "1.05", "0.000001", "-0.000001", "0.000010", "0.100000",
		"999999999", "999999999.999999", "999999999.000000", "-999999999.999999", "100000000", "100000000.000001", "123456789.123456", "900000000.100000", "-7.10", "0.3", "16777217")
	for _, s := range list {
		checkRead(t, s)
		f, _ := edge.Read(s)
		got := edge.Text(f)
		if got != shortest(s) {
			t.Errorf("Text of Read(%q) = %q, want %q", s, got, shortest(s))
		}
		if again, ok := edge.Read(got); !ok || !edge.Same(again, f) {
			t.Errorf("Read(%q) = %v, %v, want %v, of %q", got, again, ok, f, s)
		}
	}
}

func TestTextOfEnds(t *testing.T) {
	for _, s := range []string{"nan", "inf", "-inf", "-0", "0"} {
		f, ok := edge.Read(s)
		if got := edge.Text(f); !ok || got != s {
			t.Errorf("%q is told as %q", s, got)
		}
	}
	for i, f := range noNumbers() {
		if got := edge.Text(f); got != "nan" {
			t.Errorf("no number %d is told as %q", i, got)
		}
	}
	if got := edge.Text(math.Log(0)); got != "-inf" {
		t.Errorf("what is below all is told as %q", got)
	}
}

// Rule 1: Text ends, and doesn't panic, of those, too, of which nothing else is said.
func TestTextOfOthers(t *testing.T) {
	for _, f := range append(line(), math.Pi, 1e9, 1e-7, 0.1+0.2, 1e21) {
		edge.Text(f)
	}
}
