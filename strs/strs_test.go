package strs_test

import (
	"math"
	"slices"
	"testing"

	"accidence/strs"
)

// line is words in their order, each ahead of the next one.
func line() [][]int {
	return [][]int{
		{}, {math.MinInt}, {math.MinInt, math.MaxInt}, {math.MinInt + 1}, {-257}, {-256}, {-2, 5}, {-1}, {-1, -1}, {-1, 0}, {0}, {0, math.MinInt}, {0, -1}, {0, 0}, {0, 0, 0}, {0, 5}, {0, 256},
		{1}, {1, 2}, {1, 2, 0}, {1, 2, 0, 0}, {1, 3}, {2}, {9}, {10}, {255}, {256}, {256, 1}, {65536}, {1 << 32}, {math.MaxInt - 1, 7}, {math.MaxInt}, {math.MaxInt, math.MinInt}, {math.MaxInt, math.MaxInt},
	}
}

// sign is how two numbers stand.
func sign(i, j int) int {
	switch {
	case i < j:
		return -1
	case i > j:
		return 1
	}
	return 0
}

func TestCompare(t *testing.T) {
	list := line()
	for i, a := range list {
		for j, b := range list {
			if got, want := strs.Compare(a, slices.Clone(b)), sign(i, j); got != want {
				t.Errorf("Compare(%v, %v) = %d, want %d", a, b, got, want)
			}
		}
	}
	if strs.Compare(nil, nil) != 0 || strs.Compare(nil, []int{}) != 0 || strs.Compare([]int{}, nil) != 0 || strs.Compare(nil, []int{-1}) != -1 || strs.Compare([]int{-1}, nil) != 1 {
		t.Error("a nil word isn't as an empty one")
	}
}

func TestCut(t *testing.T) {
	word := []int{4, -5, 6}
	for _, c := range []struct {
		a    []int
		k    int
		want []int
	}{
		{word, 0, nil}, {word, 1, []int{4}}, {word, 2, []int{4, -5}}, {word, 3, word}, {word, 4, word}, {word, math.MaxInt, word},
		{word, -1, nil}, {word, math.MinInt, nil}, {nil, 3, nil}, {nil, 0, nil}, {nil, -1, nil}, {[]int{}, 2, nil},
	} {
		if got := strs.Cut(c.a, c.k); !slices.Equal(got, c.want) {
			t.Errorf("Cut(%v, %d) = %v, want %v", c.a, c.k, got, c.want)
		}
	}
}

func TestJoin(t *testing.T) {
	a, b := []int{1, 2}, []int{3, 4, 5}
	for _, c := range []struct {
		a, b []int
		k    int
		want []int
	}{
		{a, b, 0, nil}, {a, b, 1, []int{1}}, {a, b, 2, []int{1, 2}}, {a, b, 3, []int{1, 2, 3}}, {a, b, 5, []int{1, 2, 3, 4, 5}}, {a, b, 6, []int{1, 2, 3, 4, 5}},
		{a, b, math.MaxInt, []int{1, 2, 3, 4, 5}}, {a, b, -1, nil}, {a, b, math.MinInt, nil},
		{b, a, 4, []int{3, 4, 5, 1}}, {a, a, 3, []int{1, 2, 1}}, {nil, b, 2, []int{3, 4}}, {a, nil, 2, []int{1, 2}}, {a, nil, 1, []int{1}}, {a, nil, 9, []int{1, 2}}, {nil, nil, 4, nil}, {nil, nil, -4, nil},
	} {
		if got := strs.Join(c.a, c.b, c.k); !slices.Equal(got, c.want) {
			t.Errorf("Join(%v, %v, %d) = %v, want %v", c.a, c.b, c.k, got, c.want)
		}
	}
}

// Rule 4: what is told is new memory, and what is handed in stays.
func TestWordsAreNewMemory(t *testing.T) {
	back := []int{1, 2, 3, 4, 5, 6}
	a, b := back[:2], back[2:4]
	for _, word := range [][]int{strs.Cut(a, 2), strs.Cut(a, 1), strs.Cut(a, 9), strs.Join(a, b, 4), strs.Join(a, b, 2), strs.Join(a, b, 3), strs.Join(a, nil, 2), strs.Join(nil, b, 2)} {
		for i := range word {
			word[i] = 77
		}
		_ = append(word, 88, 88)
		if !slices.Equal(back, []int{1, 2, 3, 4, 5, 6}) {
			t.Fatalf("what was handed in was turned: %v", back)
		}
	}
	word := strs.Join(a, b, 4)
	back[0], back[2] = 0, 0
	if !slices.Equal(word, []int{1, 2, 3, 4}) {
		t.Errorf("what was told was turned: %v", word)
	}
}
