package chart

import (
	"cmp"
	"iter"
	"math/bits"
	"slices"
)

// wide is how many places a piece tells of.
const wide = 64

// piece tells of so many places that stand together which ones are there, each by a bit.
type piece struct {
	at   int
	bits uint64
}

// places is places among terminals, by pieces that rise.
type places []piece

// placesOf is one place.
func placesOf(at int) places { return places{{at / wide, 1 << (at % wide)}} }

// all goes through the places, rising.
func (p places) all() iter.Seq[int] {
	return func(yield func(int) bool) {
		for _, one := range p {
			for left := one.bits; left != 0; left &= left - 1 {
				if !yield(one.at*wide + bits.TrailingZeros64(left)) {
					return
				}
			}
		}
	}
}

// only is the place, if there is just one.
func (p places) only() (int, bool) {
	if len(p) != 1 || bits.OnesCount64(p[0].bits) != 1 {
		return 0, false
	}
	return p[0].at*wide + bits.TrailingZeros64(p[0].bits), true
}

// with is the places of both, in the memory of the first ones, if there is room, as append does it: so it costs little to put in one more.
func (p places) with(q places) places {
	for _, one := range q {
		at, found := slices.BinarySearchFunc(p, one, func(a, b piece) int { return cmp.Compare(a.at, b.at) })
		if found {
			p[at].bits |= one.bits
		} else {
			p = slices.Insert(p, at, one)
		}
	}
	return p
}

// without is the places that aren't among others.
func (p places) without(q places) places {
	var left places
	for _, one := range p {
		for len(q) > 0 && q[0].at < one.at {
			q = q[1:]
		}
		if len(q) > 0 && q[0].at == one.at {
			one.bits &^= q[0].bits
		}
		if one.bits != 0 {
			left = append(left, one)
		}
	}
	return left
}
