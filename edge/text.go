package edge

import (
	"math"
	"strconv"
	"strings"
)

// The texts of weights that aren't digits.
const (
	nanText   = "nan"
	topText   = "inf"
	belowText = "-inf"
)

// How many digits a weight's text has at most, ahead of the point and behind it.
const (
	maxWhole = 9
	maxPart  = 6
)

// Read is the weight of a text; false: it is none.
func Read(s string) (float64, bool) {
	switch s {
	case nanText:
		return math.NaN(), true
	case topText:
		return math.Inf(1), true
	case belowText:
		return math.Inf(-1), true
	}
	if !isDecimal(s) {
		return 0, false
	}
	f, err := strconv.ParseFloat(s, 64)
	if err != nil {
		return 0, false
	}
	return f, true
}

// Text is the shortest text of a weight that Read told.
func Text(f float64) string {
	switch {
	case math.IsNaN(f):
		return nanText
	case math.IsInf(f, 1):
		return topText
	case math.IsInf(f, -1):
		return belowText
	}
	// Read's texts have 15 digits at most, and no two numbers of so few are one float64: so the fewest digits that tell f are those of its text.
	return strconv.FormatFloat(f, 'f', -1, 64)
}

// isDecimal tells whether a text is a weight's that is told by digits.
func isDecimal(s string) bool {
	whole, part, point := strings.Cut(strings.TrimPrefix(s, "-"), ".")
	if !isDigits(whole, maxWhole) || len(whole) > 1 && whole[0] == '0' {
		return false
	}
	return !point || isDigits(part, maxPart)
}

// isDigits tells whether a text is one digit or more, and no more than most.
func isDigits(s string, most int) bool {
	if len(s) < 1 || len(s) > most {
		return false
	}
	for i := 0; i < len(s); i++ {
		if s[i] < '0' || s[i] > '9' {
			return false
		}
	}
	return true
}
