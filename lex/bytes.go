package lex

import "strings"

// signs are the bytes that are words by themselves.
const signs = "=;|()?*+"

// isLetter tells whether a byte is a letter, from a to z or from A to Z.
func isLetter(b byte) bool { return 'a' <= b && b <= 'z' || 'A' <= b && b <= 'Z' }

// isDigit tells whether a byte is a digit.
func isDigit(b byte) bool { return '0' <= b && b <= '9' }

// isBlank tells whether a byte may stand between words.
func isBlank(b byte) bool { return b == ' ' || b == '\t' || b == '\r' || b == '\n' }

// isSign tells whether a byte is a word by itself.
func isSign(b byte) bool { return strings.IndexByte(signs, b) >= 0 }

// inName tells whether a byte may go on with a name.
func inName(b byte) bool { return isLetter(b) || isDigit(b) || b == '_' }

// inQuote tells whether a byte may stand in quotes.
func inQuote(b byte) bool { return ' ' <= b && b <= '~' && b != '\'' }

// run is where a run of bytes that are told ends, from a place on.
func run(s string, at int, tells func(byte) bool) int {
	for at < len(s) && tells(s[at]) {
		at++
	}
	return at
}

// skip is where the blanks and the remarks end that stand at a place.
func skip(s string, at int) int {
	remark := false
	return run(s, at, func(b byte) bool {
		// A byte 10 ends a remark, and is a blank itself.
		remark = b == '#' || remark && b != '\n'
		return remark || isBlank(b)
	})
}
