package first

import (
	"slices"

	"accidence/api"
	"accidence/strs"
)

// lists is words, by how many terminals they have.
type lists [api.MaxK + 1][][]int

// pool is a set that is being filled.
type pool struct {
	words *strs.Set
	lists lists
	// Where each word is put, too; and where each is that has as many terminals as may be, so that nothing is seen of what comes behind it.
	all, full []*pool
}

// entry is a word that was put into a pool, and is to go on from there.
type entry struct {
	pool *pool
	word []int
}

// newPool is a pool of no words, from which none goes on.
func newPool() *pool { return &pool{words: strs.Of()} }

// with is some pools and one more, if it isn't there.
func with(list []*pool, p *pool) []*pool {
	if slices.Contains(list, p) {
		return list
	}
	return append(list, p)
}

// add puts a word in; false: it is in.
func (p *pool) add(word []int) bool {
	if !p.words.Add(word) {
		return false
	}
	p.lists[len(word)] = append(p.lists[len(word)], word)
	return true
}

// put puts a word into a pool, and into all to which it goes on from there.
func (f *filling) put(p *pool, word []int) {
	f.spend(p, word)
	for len(f.todo) > 0 {
		e := f.todo[len(f.todo)-1]
		f.todo = f.todo[:len(f.todo)-1]
		for _, to := range e.pool.all {
			f.spend(to, e.word)
		}
		if len(e.word) < f.sets.K {
			continue
		}
		for _, to := range e.pool.full {
			f.spend(to, e.word)
		}
	}
}

// spend puts a word into a pool; if it wasn't in, that is spent for, and the word is to go on.
func (f *filling) spend(p *pool, word []int) {
	if p.add(word) {
		f.meter.Spend(1)
		f.todo = append(f.todo, entry{p, word})
	}
}
