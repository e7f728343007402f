package circuit

import (
	"slices"
	"strings"

	"pneumatic/api"
	"pneumatic/part"
)

// What is behind the name of a cylinder in the names of its limit switches.
const (
	retracted = "0"
	extended  = "1"
)

// none is the index of a limit switch that does not exist.
const none = -1

// limits has the indices of the limit switches of a cylinder.
type limits struct{ in, out int }

// noLimits are those of a cylinder that has no limit switch.
var noLimits = limits{none, none}

// checkParts returns OK for right parts in the order of their names.
func checkParts(parts []api.Part) api.Errno {
	for k, p := range parts {
		if e := part.Check(p); e != api.OK {
			return e
		}
		if k > 0 && p.Name <= parts[k-1].Name {
			return api.ErrOrder
		}
	}
	return api.OK
}

// checkLimits returns OK for parts in order whose limit switches belong to cylinders.
func checkLimits(parts []api.Part) api.Errno {
	for _, p := range parts {
		if p.Kind == part.Limit && !belongs(parts, p.Name) {
			return api.ErrNone
		}
	}
	return api.OK
}

// belongs reports whether a limit switch with a name belongs to a cylinder.
func belongs(parts []api.Part, name string) bool {
	for _, end := range [...]string{retracted, extended} {
		cylinder, found := strings.CutSuffix(name, end)
		if found && withKind(parts, cylinder, part.Cylinder) != none {
			return true
		}
	}
	return false
}

// limitsOf returns the limit switches of the cylinder with a name.
func limitsOf(parts []api.Part, name string) limits {
	return limits{
		in:  withKind(parts, name+retracted, part.Limit),
		out: withKind(parts, name+extended, part.Limit),
	}
}

// withKind returns the index of the part with a name, if it has a kind.
func withKind(parts []api.Part, name string, kind int) int {
	at, found := place(parts, name)
	if !found || parts[at].Kind != kind {
		return none
	}
	return at
}

// place returns where a part with a name is among parts in order, or would be, and whether there is one.
func place(parts []api.Part, name string) (int, bool) {
	return slices.BinarySearchFunc(parts, name, func(p api.Part, name string) int {
		return strings.Compare(p.Name, name)
	})
}
