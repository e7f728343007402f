// Package choice finds the fewest sets that have all elements together, and the most elements of which no set has two. Several layers share these searches.
package choice

import (
	"math"
	"slices"

	"pneumatic/api"
)

// Search searches a family of sets until its steps are used up.
type Search struct {
	sets  []Set
	costs []int
	steps int
	// These have for each element the indices of the sets with it, the elements of these sets, and the least cost of one.
	having, near []Set
	cheapest     []int
}

// New returns a search of at most so many steps for the elements from 0 to n - 1, in a family of at most Elements sets, each of which has a weight that is not negative. Among k sets, Cover takes less than 2^(k+1) steps; Apart takes at most 2^k among k elements.
func New(n int, sets []Set, weights []int, steps int) *Search {
	s := &Search{sets: sets, costs: costs(weights), steps: steps, having: make([]Set, n), near: make([]Set, n), cheapest: make([]int, n)}
	for i, set := range sets {
		for k := range set.All() {
			if s.having[k].IsEmpty() || s.costs[i] < s.cheapest[k] {
				s.cheapest[k] = s.costs[i]
			}
			s.having[k] = s.having[k].Or(Of(i))
			s.near[k] = s.near[k].Or(set)
		}
	}
	return s
}

// costs returns a cost for each weight, so that more sets always cost more, and as many cost more if they weigh more.
func costs(weights []int) []int {
	more := 1
	for _, w := range weights {
		more += w
	}
	var l []int
	for _, w := range weights {
		l = append(l, more+w)
	}
	return l
}

// Cover returns the fewest sets that have all of some elements, of those as many the lightest, and of several such choices the first one in lexicographic order, ascending. Its error is ErrNone if there is no choice, and ErrLimit if the steps do not suffice.
func (s *Search) Cover(all Set) ([]int, api.Errno) {
	free := s.indices()
	cost := s.least(all, free, 0, math.MaxInt)
	var l []int
	for i, set := range s.sets {
		free = free.Without(Of(i))
		rest, less := all.Without(set), cost-s.costs[i]
		// In a choice that is best, each set has something that those before it do not have.
		if rest != all && s.least(rest, free, less, less+1) == less {
			l = append(l, i)
			all, cost = rest, less
		}
	}
	if s.steps == 0 {
		return nil, api.ErrLimit
	}
	if !all.IsEmpty() {
		return nil, api.ErrNone
	}
	return l, api.OK
}

// Apart returns the most of some elements of which no set has two; of several such lists the first one in lexicographic order, ascending. Its error is ErrLimit if the steps do not suffice.
func (s *Search) Apart(among Set) ([]int, api.Errno) {
	var best []int
	var visit func(rest Set, l []int)
	visit = func(rest Set, l []int) {
		if len(l) > len(best) {
			best = slices.Clone(l)
		}
		for k := range rest.All() {
			if len(l)+s.parts(rest) <= len(best) || !s.step() {
				return
			}
			rest = rest.Without(Of(k))
			visit(rest.Without(s.near[k]), append(l, k))
		}
	}
	visit(among, nil)
	if s.steps == 0 {
		return nil, api.ErrLimit
	}
	return best, api.OK
}

// step uses up a step, and reports whether there was one.
func (s *Search) step() bool {
	if s.steps == 0 {
		return false
	}
	s.steps--
	return true
}

// indices returns the indices of all sets.
func (s *Search) indices() Set {
	var all Set
	for i := range s.sets {
		all = all.Or(Of(i))
	}
	return all
}

// least returns the least cost, below a limit, of free sets that have all of some elements, or the limit if there are none. The caller knows that none cost less than enough.
func (s *Search) least(all, free Set, enough, limit int) int {
	best := limit
	var visit func(rest, free Set, cost int)
	visit = func(rest, free Set, cost int) {
		if rest.IsEmpty() {
			best = cost
			return
		}
		for _, i := range s.with(s.rarest(rest, free), rest, free) {
			if best <= enough || !s.step() {
				return
			}
			// All choices with the set i are visited now, so that those with a set behind it need it no more.
			free = free.Without(Of(i))
			left, next := rest.Without(s.sets[i]), cost+s.costs[i]
			if next+s.bound(left) < best {
				visit(left, free, next)
			}
		}
	}
	if s.bound(all) < best {
		visit(all, free, 0)
	}
	return best
}

// bound returns what sets with all of some elements cost at least: as much as the cheapest sets with some of them that are apart.
func (s *Search) bound(rest Set) int {
	cost := 0
	for k := range rest.All() {
		if rest.Has(k) {
			cost += s.cheapest[k]
			rest = rest.Without(s.near[k])
		}
	}
	return cost
}

// parts returns how many of some elements are apart at most: as many as the sets, and the elements in none of them, that have them all.
func (s *Search) parts(rest Set) int {
	n := 0
	for k := range rest.All() {
		if rest.Has(k) {
			n++
			rest = rest.Without(s.largest(k, rest)).Without(Of(k))
		}
	}
	return n
}

// largest returns the set with an element that has the most of the elements that are left.
func (s *Search) largest(k int, rest Set) Set {
	var largest Set
	for i := range s.having[k].All() {
		if s.sets[i].And(rest).Size() > largest.And(rest).Size() {
			largest = s.sets[i]
		}
	}
	return largest
}

// rarest returns the element that the fewest free sets have.
func (s *Search) rarest(rest, free Set) int {
	rarest, fewest := 0, math.MaxInt
	for k := range rest.All() {
		if n := s.having[k].And(free).Size(); n < fewest {
			rarest, fewest = k, n
		}
	}
	return rarest
}

// with returns the free sets with an element, those with the most of the elements that are left first.
func (s *Search) with(k int, rest, free Set) []int {
	l := slices.Collect(s.having[k].And(free).All())
	slices.SortStableFunc(l, func(i, j int) int {
		return s.sets[j].And(rest).Size() - s.sets[i].And(rest).Size()
	})
	return l
}
