package setcover

import (
	"cmp"
	"iter"
	"slices"

	"pneumatic/choice"
)

// steps is how long a search may be. For up to 16 sets, and lists of up to 16 elements, less than 1<<17 steps are needed.
const steps = 1 << 20

// newSearch returns a search in which all sets weigh the same.
func newSearch(f Family) *choice.Search {
	var sets []choice.Set
	for _, set := range f.Sets {
		sets = append(sets, setOf(set))
	}
	return choice.New(f.N, sets, make([]int, len(sets)), steps)
}

// setOf returns the set with the elements of a word.
func setOf(word uint64) choice.Set {
	return choice.Set{word}
}

// exactSearch looks for exact covers until its steps are used up.
type exactSearch struct {
	sets  []uint64
	steps int
}

// covers yields the exact covers of some elements, without empty sets.
func (s *exactSearch) covers(all uint64) iter.Seq[[]int] {
	return func(yield func([]int) bool) {
		var visit func(rest uint64, l []int) bool
		visit = func(rest uint64, l []int) bool {
			if s.steps == 0 {
				return false
			}
			s.steps--
			if rest == 0 {
				return yield(slices.Sorted(slices.Values(l)))
			}
			// Just one set has the least element that is left, so that no choice is visited twice.
			least := rest & -rest
			for i, set := range s.sets {
				if set&least != 0 && set&^rest == 0 && !visit(rest&^set, append(l, i)) {
					return false
				}
			}
			return true
		}
		visit(all, nil)
	}
}

// isBefore reports whether one choice comes before another one.
func isBefore(a, b []int) bool {
	return cmp.Or(cmp.Compare(len(a), len(b)), slices.Compare(a, b)) < 0
}
