package truth

import (
	"iter"
	"math/bits"

	"pneumatic/api"
)

// columns has for each variable the points of six variables at which it is true.
var columns = [api.MaxVars]uint64{
	0xaaaaaaaaaaaaaaaa,
	0xcccccccccccccccc,
	0xf0f0f0f0f0f0f0f0,
	0xff00ff00ff00ff00,
	0xffff0000ffff0000,
	0xffffffff00000000,
}

// isNumberOfVariables reports whether tables may have so many variables.
func isNumberOfVariables(n int) bool {
	return n >= 0 && n <= api.MaxVars
}

// isBelow reports whether i is an index of n elements.
func isBelow(i, n int) bool {
	return i >= 0 && i < n
}

// size returns the number of points of n variables.
func size(n int) int {
	return 1 << n
}

// everywhere returns the bits of all points of n variables.
func everywhere(n int) uint64 {
	return ^uint64(0) >> (64 - size(n))
}

// points yields the indices of the bits of a word that are 1, ascending.
func points(word uint64) iter.Seq[int] {
	return func(yield func(int) bool) {
		for ; word != 0; word &= word - 1 {
			if !yield(bits.TrailingZeros64(word)) {
				return
			}
		}
	}
}

// cofactors returns the bits of the cofactors of a function for the values false and true of a variable.
func cofactors(t api.Table, i int) (low, high uint64) {
	low, high = t.Bits&^columns[i], t.Bits&columns[i]
	// Points that differ in the variable i alone are so far apart.
	apart := 1 << i
	return low | low<<apart, high | high>>apart
}
