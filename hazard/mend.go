package hazard

import (
	"math/bits"
	"slices"

	"pneumatic/api"
	"pneumatic/choice"
	"pneumatic/implicant"
	"pneumatic/truth"
)

// steps is how long a search may be. Functions of at most 4 variables have at most 13 prime implicants, and need far fewer.
const steps = 1 << 17

// Mend returns the cubes that have to be added to a form so that it has no static hazard.
func Mend(n int, form []api.Cube) ([]api.Cube, api.Errno) {
	hazards, e := Hazards(n, form)
	if e != api.OK {
		return nil, e
	}
	primes, _ := primesOf(table(n, form...))
	var added []api.Cube
	for _, pair := range hazards {
		if !together(n, added, pair) {
			i := slices.IndexFunc(primes, func(c api.Cube) bool { return joins(n, c, pair) })
			added = append(added, primes[i])
		}
	}
	return added, api.OK
}

// Form returns a form of a function with the fewest prime implicants that has no static hazard.
func Form(t api.Table) ([]api.Cube, api.Errno) {
	primes, e := primesOf(t)
	if e != api.OK {
		return nil, e
	}
	var sets []choice.Set
	var weights []int
	for _, c := range primes {
		sets = append(sets, needs(table(t.N, c)))
		weights = append(weights, bits.OnesCount(c.Care))
	}
	indices, e := choice.New((t.N+1)<<api.MaxVars, sets, weights, steps).Cover(needs(t))
	if e != api.OK {
		return nil, e
	}
	var form []api.Cube
	for _, i := range indices {
		form = append(form, primes[i])
	}
	return form, api.OK
}

// primesOf returns the prime implicants of a function.
func primesOf(t api.Table) ([]api.Cube, api.Errno) {
	return implicant.Primes(implicant.Task{On: t, Free: api.Table{N: t.N}})
}

// neighbours returns the pairs of points of a function that differ in one variable, ascending.
func neighbours(t api.Table) [][2]int {
	points, _ := truth.Points(t)
	var l [][2]int
	for _, point := range points {
		for i := range t.N {
			if other := point | 1<<i; other != point && slices.Contains(points, other) {
				l = append(l, [2]int{point, other})
			}
		}
	}
	return l
}

// joins reports whether both points of a pair are in a cube.
func joins(n int, c api.Cube, pair [2]int) bool {
	first, _ := implicant.Covers(n, c, pair[0])
	second, _ := implicant.Covers(n, c, pair[1])
	return first && second
}

// together reports whether both points of a pair are in one of some cubes.
func together(n int, form []api.Cube, pair [2]int) bool {
	return slices.ContainsFunc(form, func(c api.Cube) bool { return joins(n, c, pair) })
}

// needs returns what cubes without hazards have: the points of a function, and its pairs of neighbours. An element is a point, or the lesser point of a pair and, above, 1 more than the variable in which its points differ.
func needs(t api.Table) choice.Set {
	points, _ := truth.Points(t)
	set := choice.Of(points...)
	for _, pair := range neighbours(t) {
		variable := bits.TrailingZeros(uint(pair[1] - pair[0]))
		set = set.Or(choice.Of((variable+1)<<api.MaxVars + pair[0]))
	}
	return set
}
