// Package edge is layer 1: see shared/doc/01-edge.md.
package edge

import "math"

// signBit is the bit that a float64 below 0 has, and -0 too.
const signBit = 1 << 63

// Key is a weight's place among all: of greater ones it is greater; those that are no numbers stand behind all.
func Key(f float64) uint64 {
	if math.IsNaN(f) {
		return math.MaxUint64
	}
	bits := math.Float64bits(f)
	if bits&signBit != 0 {
		// The bits grow away from 0, so below it they are turned about.
		return ^bits
	}
	return bits | signBit
}

// Compare tells how two weights stand: -1, 0, 1.
func Compare(a, b float64) int {
	x, y := Key(a), Key(b)
	switch {
	case x < y:
		return -1
	case x > y:
		return 1
	}
	return 0
}

// Same tells whether two weights are the same.
func Same(a, b float64) bool { return Key(a) == Key(b) }

// Top is the one of two weights that stands behind the other.
func Top(a, b float64) float64 {
	if Key(a) < Key(b) {
		return b
	}
	return a
}

// Sum is weights added up, one by one, from the first one on.
func Sum(list []float64) float64 {
	if len(list) == 0 {
		return 0
	}
	// Begun with the first one, as 0 added to -0 would be 0.
	sum := list[0]
	for _, f := range list[1:] {
		sum += f
	}
	return sum
}
