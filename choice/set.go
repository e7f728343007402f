package choice

import (
	"iter"
	"math/bits"
)

// wordBits is the number of bits of a word of a set.
const wordBits = 64

// Elements is the number of elements that a set may have.
const Elements = 8 * wordBits

// Set has elements from 0 to Elements - 1: the bit k of the word w stands for the element 64w + k.
type Set [Elements / wordBits]uint64

// Of returns the set of some elements.
func Of(elements ...int) Set {
	var s Set
	for _, k := range elements {
		s[k/wordBits] |= 1 << (k % wordBits)
	}
	return s
}

// Has reports whether an element is in a set.
func (s Set) Has(k int) bool {
	return s[k/wordBits]>>(k%wordBits)&1 == 1
}

// And returns the elements of a set that another one has too.
func (s Set) And(t Set) Set {
	for w := range s {
		s[w] &= t[w]
	}
	return s
}

// Or returns the elements of a set, and those of another one.
func (s Set) Or(t Set) Set {
	for w := range s {
		s[w] |= t[w]
	}
	return s
}

// Without returns the elements of a set that another one does not have.
func (s Set) Without(t Set) Set {
	for w := range s {
		s[w] &^= t[w]
	}
	return s
}

// IsEmpty reports whether a set has no element.
func (s Set) IsEmpty() bool {
	return s == Set{}
}

// Size returns the number of elements of a set.
func (s Set) Size() int {
	n := 0
	for _, word := range s {
		n += bits.OnesCount64(word)
	}
	return n
}

// All yields the elements of a set, ascending.
func (s Set) All() iter.Seq[int] {
	return func(yield func(int) bool) {
		for w, word := range s {
			for ; word != 0; word &= word - 1 {
				if !yield(w*wordBits + bits.TrailingZeros64(word)) {
					return
				}
			}
		}
	}
}
