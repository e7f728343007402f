package variant

import (
	"cmp"
	"slices"

	"pneumatic/api"
	"pneumatic/stroke"
)

// mapped returns what a function makes of steps, from the first one on. It has to make steps with memory of their own.
func mapped(steps []api.Step, change func(k int, x api.Step) api.Step) []api.Step {
	var l []api.Step
	for k, x := range steps {
		l = append(l, change(k, x))
	}
	return l
}

// of returns the sequence with some steps, in memory of its own.
func of(actuators int, steps []api.Step) api.Sequence {
	return api.Sequence{Actuators: actuators, Steps: mapped(steps, func(_ int, x api.Step) api.Step {
		return api.Step{Strokes: slices.Clone(x.Strokes), Wait: x.Wait}
	})}
}

// ordered returns strokes in ascending order of their actuators.
func ordered(strokes []api.Stroke) []api.Stroke {
	return slices.SortedFunc(slices.Values(strokes), func(a, b api.Stroke) int {
		return cmp.Compare(a.Actuator, b.Actuator)
	})
}

// opposites returns the opposite strokes of right ones.
func opposites(strokes []api.Stroke) []api.Stroke {
	var l []api.Stroke
	for _, x := range strokes {
		opposite, _ := stroke.Opposite(x)
		l = append(l, opposite)
	}
	return l
}

// moves reports whether an actuator moves in a right step.
func moves(x api.Step, actuator int) bool {
	sense, _ := stroke.Has(x, actuator)
	return sense != 0
}

// haveCommon reports whether some actuator moves in both of two right steps.
func haveCommon(a, b api.Step) bool {
	return slices.ContainsFunc(a.Strokes, func(x api.Stroke) bool { return moves(b, x.Actuator) })
}

// movers returns the actuators that move in some right steps, ascending.
func movers(steps []api.Step) []int {
	var l []int
	for actuator := range api.MaxActuators {
		if slices.ContainsFunc(steps, func(x api.Step) bool { return moves(x, actuator) }) {
			l = append(l, actuator)
		}
	}
	return l
}

// pauses returns the steps before which all actuators are in, of a sequence that was checked.
func pauses(s api.Sequence) []int {
	var l []int
	isOut := make([]bool, s.Actuators)
	for k, x := range s.Steps {
		if !slices.Contains(isOut, true) {
			l = append(l, k)
		}
		isOut, _ = stroke.Apply(x, isOut)
	}
	return l
}
