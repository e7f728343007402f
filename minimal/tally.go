package minimal

import (
	"pneumatic/api"
	"pneumatic/implicant"
)

// tally has for each point how many of some cubes have it.
type tally [1 << api.MaxVars]int

// count adds a number for each of some points.
func (t *tally) count(points uint64, number int) {
	for point := range t {
		t[point] += int(points>>point&1) * number
	}
}

// open returns those of some points that no cube has.
func (t tally) open(points uint64) uint64 {
	for point, number := range t {
		if number > 0 {
			points &^= 1 << point
		}
	}
	return points
}

// pointsOf returns the points of a cube that was checked.
func pointsOf(n int, c api.Cube) uint64 {
	t, _ := implicant.Table(n, c)
	return t.Bits
}
