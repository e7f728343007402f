package pressure

import "slices"

// way is how a part passes pressure, by the nets of its ports.
type way struct {
	part, to int
	from     []int
	all      bool
}

// isFed reports whether as many of the nets from which pressure comes are under pressure as are needed.
func (w way) isFed(states []int) bool {
	if w.all {
		return !slices.ContainsFunc(w.from, func(net int) bool { return states[net] != Pressed })
	}
	return slices.ContainsFunc(w.from, func(net int) bool { return states[net] == Pressed })
}

// isOpen reports whether one of the nets from which pressure comes is vented.
func (w way) isOpen(states []int) bool {
	return slices.ContainsFunc(w.from, func(net int) bool { return states[net] == Vented })
}

// rule marks nets: those that have a state because of what it knows.
type rule func(mark func(net int))

// always returns the rule that marks some nets.
func always(nets []int) rule {
	return func(mark func(net int)) {
		for _, net := range nets {
			mark(net)
		}
	}
}

// along returns the rule that marks where those ways lead that pass a test.
func along(ways []way, passes func(w way) bool) rule {
	return func(mark func(net int)) {
		for _, w := range ways {
			if passes(w) {
				mark(w.to)
			}
		}
	}
}

// spread gives a state to the nets that rules mark, if they are shut as yet, again and again until nothing changes.
func spread(states []int, state int, rules ...rule) {
	for changed := true; changed; {
		changed = false
		for _, r := range rules {
			r(func(net int) {
				if states[net] == Shut {
					states[net], changed = state, true
				}
			})
		}
	}
}
