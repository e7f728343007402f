package variant

import (
	"slices"

	"pneumatic/api"
	"pneumatic/sequence"
)

// renaming has for each of some actuators which one it becomes. No two of them become the same.
type renaming map[int]int

// renamingTo returns the renaming of as many actuators as a list has elements, to these.
func renamingTo(to []int) (renaming, api.Errno) {
	letters := renaming{}
	for i, actuator := range to {
		if actuator < 0 || actuator >= len(to) {
			return nil, api.ErrRange
		}
		if slices.Contains(to[:i], actuator) {
			return nil, api.ErrTwice
		}
		letters[i] = actuator
	}
	return letters, api.OK
}

// inOrder returns the renaming of actuators to 0, 1 and so on, in the order in which they come.
func inOrder(actuators []int) renaming {
	letters := renaming{}
	for i, actuator := range actuators {
		letters[actuator] = i
	}
	return letters
}

// renamed returns the sequence with steps whose actuators are renamed, and with no others.
func renamed(steps []api.Step, letters renaming) api.Sequence {
	return api.Sequence{Actuators: len(letters), Steps: mapped(steps, func(_ int, x api.Step) api.Step {
		var strokes []api.Stroke
		for _, y := range x.Strokes {
			strokes = append(strokes, api.Stroke{Actuator: letters[y.Actuator], Out: y.Out})
		}
		return api.Step{Strokes: ordered(strokes), Wait: x.Wait}
	})}
}

// byMoves returns the actuators of a sequence that was checked, in the order of the lists of steps in which they move.
func byMoves(s api.Sequence) []int {
	var actuators []int
	lists := map[int][]int{}
	for actuator := range s.Actuators {
		actuators = append(actuators, actuator)
		lists[actuator], _ = sequence.Moves(s, actuator)
	}
	slices.SortStableFunc(actuators, func(a, b int) int { return slices.Compare(lists[a], lists[b]) })
	return actuators
}
