package chart

// item is a rule, and how many of its symbols are passed, but not all.
type item struct{ rule, dot int }

// behind is the item behind the symbol that stands next.
func (i item) behind() item { return item{i.rule, i.dot + 1} }

// call is a variable that begins at a place.
type call struct{ at, v int }

// front is where one may be at a place, behind all terminals ahead of it.
type front struct {
	// The symbols that stand next, each once, as they came, the items ahead of each, and where the rule of each item may have begun.
	nexts []int
	ahead map[int][]item
	begun map[item]places
	// Are all terminals ahead of it a word?
	whole bool
	// Of a variable that begins here the call that ends with it at last, if nothing else comes of its end. It is put in when it is asked for.
	tops map[int]call
	// Of each variable that begins here how many terminals it takes at least behind it. It is made when it is asked for.
	needs []int
}

// newFront is a front at which one can't be.
func newFront() *front {
	return &front{ahead: map[int][]item{}, begun: map[item]places{}, tops: map[int]call{}}
}

// put puts an item in, ahead of a symbol, whose rule may have begun at some places, and tells which of these are new.
func (f *front) put(i item, s int, begun places) places {
	own, known := f.begun[i]
	if !known {
		if len(f.ahead[s]) == 0 {
			f.nexts = append(f.nexts, s)
		}
		f.ahead[s] = append(f.ahead[s], i)
	}
	fresh := begun.without(own)
	f.begun[i] = own.with(fresh)
	return fresh
}

// enter puts an item in, and those behind each variable next to it that may vanish. If it comes to the rule's end so, it tells at which places the rule may have begun, without those of which all of this was known.
func (b *book) enter(f *front, i item, begun places) places {
	for _, s := range b.right(i) {
		begun = f.put(i, s, begun)
		if len(begun) == 0 || !b.vanishes(s) {
			return nil
		}
		i.dot++
	}
	return begun
}

// foresee begins all variables that may stand next at a front's place.
func (b *book) foresee(f *front, at int) {
	here := placesOf(at)
	// Those that come to stand next on the way count too.
	for n := 0; n < len(f.nexts); n++ {
		b.begin(f, f.nexts[n], here)
	}
}

// begin enters all rules of a symbol, if it is a variable, which begin at a place.
func (b *book) begin(f *front, s int, here places) {
	if !b.isVar(s) {
		return
	}
	for _, rule := range b.rules[s] {
		b.enter(f, item{rule: rule}, here)
	}
}
