// Package strs is layer 2: see shared/doc/02-strs.md.
package strs

// Compare tells how two words stand: number by number; the beginning of another one stands ahead.
func Compare(a, b []int) int {
	for i := 0; i < len(a) && i < len(b); i++ {
		if a[i] != b[i] {
			return order(a[i], b[i])
		}
	}
	return order(len(a), len(b))
}

// order tells how two numbers stand.
func order(a, b int) int {
	switch {
	case a < b:
		return -1
	case a > b:
		return 1
	}
	return 0
}

// Cut is a word's first k numbers.
func Cut(a []int, k int) []int {
	return Join(a, nil, k)
}

// Join is the first k numbers of two words, one behind the other.
func Join(a, b []int, k int) []int {
	a = head(a, k)
	b = head(b, k-len(a))
	word := make([]int, 0, len(a)+len(b))
	word = append(word, a...)
	return append(word, b...)
}

// head is a word's first k numbers, in the word's own memory.
func head(a []int, k int) []int {
	return a[:min(len(a), max(k, 0))]
}
