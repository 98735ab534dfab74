package strs

import "slices"

// Set is a set of words.
type Set struct {
	// Made when a first word is put in, as the zero Set is one of none.
	keys map[string]struct{}
}

// Of is the set of some words.
func Of(list ...[]int) *Set {
	s := &Set{}
	for _, a := range list {
		s.Add(a)
	}
	return s
}

// Add puts a word in; false: it is in.
func (s *Set) Add(a []int) bool { return s.put(keyOf(a)) }

// Has tells whether a word is in.
func (s *Set) Has(a []int) bool { return s.holds(keyOf(a)) }

// Len is how many words are in.
func (s *Set) Len() int { return len(s.held()) }

// All is all words, in order.
func (s *Set) All() [][]int {
	if s.Len() == 0 {
		return nil
	}
	keys := make([]string, 0, s.Len())
	for key := range s.held() {
		keys = append(keys, key)
	}
	slices.Sort(keys)
	list := make([][]int, len(keys))
	for i, key := range keys {
		list[i] = wordOf(key)
	}
	return list
}

// Take puts all words of another set in: how many weren't.
func (s *Set) Take(t *Set) int {
	if s == t {
		return 0
	}
	n := 0
	for key := range t.held() {
		if s.put(key) {
			n++
		}
	}
	return n
}

// Times is the words of two sets, each with each, of k numbers at most.
func (s *Set) Times(t *Set, k int) *Set {
	out := &Set{}
	if t.Len() == 0 {
		return out
	}
	// Words of the one that leave the same room have the same tails: those are cut once, so that many that are cut to one cost no more than that one.
	tails := map[int]*Set{}
	for key := range s.held() {
		room := max(k, 0) - keyLen(key)
		if room <= 0 {
			out.put(keyHead(key, k))
			continue
		}
		if tails[room] == nil {
			tails[room] = t.cut(room)
		}
		for tail := range tails[room].held() {
			out.put(key + tail)
		}
	}
	return out
}

// Meet is the words that are in both sets.
func (s *Set) Meet(t *Set) *Set {
	out := &Set{}
	for key := range s.held() {
		if t.holds(key) {
			out.put(key)
		}
	}
	return out
}

// Same tells whether two sets have the same words.
func (s *Set) Same(t *Set) bool {
	if s.Len() != t.Len() {
		return false
	}
	for key := range s.held() {
		if !t.holds(key) {
			return false
		}
	}
	return true
}

// cut is the first k numbers of all words.
func (s *Set) cut(k int) *Set {
	out := &Set{}
	for key := range s.held() {
		out.put(keyHead(key, k))
	}
	return out
}

// held is the keys of all words; of no set none.
func (s *Set) held() map[string]struct{} {
	if s == nil {
		return nil
	}
	return s.keys
}

// holds tells whether the word of a key is in.
func (s *Set) holds(key string) bool {
	_, ok := s.held()[key]
	return ok
}

// put puts the word of a key in; false: it is in, or there is no set to put it in.
func (s *Set) put(key string) bool {
	if s == nil || s.holds(key) {
		return false
	}
	if s.keys == nil {
		s.keys = map[string]struct{}{}
	}
	s.keys[key] = struct{}{}
	return true
}
