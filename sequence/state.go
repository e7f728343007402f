package sequence

import (
	"iter"
	"slices"

	"pneumatic/api"
	"pneumatic/stroke"
)

// ends says of each actuator whether it is out. Those that a sequence does not have stay in.
type ends [api.MaxActuators]bool

// allIn returns the ends with which each cycle begins.
func allIn() ends { return ends{} }

// states yields the numbers k of steps, from 0 on, with the ends behind the first k steps, as far as these fit.
func states(s api.Sequence) iter.Seq2[int, ends] {
	return func(yield func(k int, now ends) bool) {
		now := allIn()
		for k, step := range s.Steps {
			if !yield(k, now) {
				return
			}
			behind, e := stroke.Apply(step, now[:])
			if e != api.OK {
				return
			}
			now = ends(behind)
		}
		yield(len(s.Steps), now)
	}
}

// checkStep returns OK for a step of so many actuators that fits the ends before it.
func checkStep(step api.Step, actuators int, before ends) api.Errno {
	fits, e := stroke.Fits(step, before[:])
	switch {
	case e != api.OK:
		return e
	case greatest([]api.Step{step}) >= actuators:
		return api.ErrNone
	case !fits:
		return api.ErrState
	}
	return api.OK
}

// greatest returns the greatest actuator of right steps.
func greatest(steps []api.Step) int {
	actuator := 0
	for _, step := range steps {
		for _, x := range step.Strokes {
			actuator = max(actuator, x.Actuator)
		}
	}
	return actuator
}

// moves returns the indices of the steps in which an actuator moves.
func moves(s api.Sequence, actuator int) []int {
	var l []int
	for k, step := range s.Steps {
		if sense, _ := stroke.Has(step, actuator); sense != 0 {
			l = append(l, k)
		}
	}
	return l
}

// hasAll reports whether all strokes of a step are in a part of a word.
func hasAll(part, strokes []api.Stroke) bool {
	for _, x := range strokes {
		if !slices.Contains(part, x) {
			return false
		}
	}
	return true
}
