package group

import (
	"slices"

	"pneumatic/api"
)

// set has actuators, each as its bit.
type set uint8

// bitOf has the set with each actuator alone.
var bitOf = [api.MaxActuators]set{1, 2, 4, 8, 16, 32}

// setsOf returns for each of some right steps the actuators that move in it.
func setsOf(steps []api.Step) []set {
	sets := make([]set, len(steps))
	for k, step := range steps {
		for _, x := range step.Strokes {
			sets[k] |= bitOf[x.Actuator]
		}
	}
	return sets
}

// union returns the actuators that move in some steps, and whether each of them moves just once.
func union(steps []set) (moved set, once bool) {
	once = true
	for _, x := range steps {
		once = once && moved&x == 0
		moved |= x
	}
	return moved, once
}

// actuatorsIn returns the actuators of a set, ascending.
func actuatorsIn(moved set) []int {
	var l []int
	for actuator, bit := range bitOf {
		if moved&bit != 0 {
			l = append(l, actuator)
		}
	}
	return l
}

// lastWith returns the last of some steps in which an actuator of a set moves. There has to be one.
func lastWith(steps []set, moving set) int {
	k := len(steps) - 1
	for steps[k]&moving == 0 {
		k--
	}
	return k
}

// divided returns the steps of each group of a division or a ring. In a ring, those before its first element belong to the last group.
func divided(steps []set, list []int) [][]set {
	around := slices.Concat(steps, steps[:list[0]])
	ends := append(slices.Clone(list[1:]), len(around))
	var groups [][]set
	for i, begin := range list {
		groups = append(groups, around[begin:ends[i]])
	}
	return groups
}

// borders returns the places of the steps with which groups begin, but the first group, if each group is as long as possible, one after the other. (A group that ends earlier leaves more to the next one, so that no other border can be later.)
func borders(steps []set) []int {
	var l []int
	var search func(begin int)
	search = func(begin int) {
		var moved set
		for k := begin; k < len(steps); k++ {
			if moved&steps[k] != 0 {
				l = append(l, k)
				search(k)
				return
			}
			moved |= steps[k]
		}
	}
	search(0)
	return l
}

// ringFrom returns the fewest ring with a step as its first element, if there is one.
func ringFrom(steps []set, first int) ([]int, bool) {
	// Backwards from the first element, the longest groups begin as early as possible.
	backwards := slices.Concat(steps[first:], steps[:first])
	slices.Reverse(backwards)
	places := borders(backwards)
	// The last group has to reach from the last step on to the first element, since no element is less than that.
	if places[0] <= first {
		return nil, false
	}
	ring := []int{first}
	for _, place := range slices.Backward(places) {
		ring = append(ring, first+len(steps)-place)
	}
	return ring, true
}
