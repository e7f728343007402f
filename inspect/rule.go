package inspect

import (
	"slices"

	"pneumatic/api"
	"pneumatic/part"
)

// rule has the word of a kind of findings, and what returns their ports.
type rule struct {
	word  string
	found func(v view) []api.Port
}

// rules returns the rules for all kinds of findings.
func rules() [Kinds]rule {
	return [Kinds]rule{
		NoSupply:    {"no supply", noSupply},
		OpenPilot:   {"open pilot", where(part.RolePilot, isOpen)},
		OpenChamber: {"open chamber", where(part.RoleChamber, isOpen)},
		Unfed:       {"unfed", where(part.RoleIn, isUnfed)},
		Joined:      {"joined outputs", where(part.RoleOut, isJoined)},
		DeadEnd:     {"dead end", where(part.RoleOut, isDeadEnd)},
		Plugged:     {"plugged exhaust", where(part.RoleExhaust, isPlugged)},
		Opposed:     {"opposed pilots", where(part.RolePilot, isOpposed)},
	}
}

// noSupply returns the place of a finding about the whole circuit if it has parts, but no supply.
func noSupply(v view) []api.Port {
	isSupply := func(p api.Part) bool { return p.Kind == part.Supply }
	if len(v.c.Parts) == 0 || slices.ContainsFunc(v.c.Parts, isSupply) {
		return nil
	}
	return []api.Port{{}}
}

// where returns what finds the ports with a role that pass a test.
func where(role int, test func(v view, p api.Port) bool) func(v view) []api.Port {
	return func(v view) []api.Port {
		return filtered(v.ports, func(p api.Port) bool { return v.role(p) == role && test(v, p) })
	}
}

// isOpen reports whether a port is alone in its net.
func isOpen(v view, p api.Port) bool { return len(v.nets[p]) == 1 }

// isPlugged reports whether a port is not alone in its net.
func isPlugged(v view, p api.Port) bool { return !isOpen(v, p) }

// isUnfed reports whether nothing gives pressure to a port.
func isUnfed(v view, p api.Port) bool { return len(v.givers(p)) == 0 }

// isDeadEnd reports whether nothing takes the pressure of a port.
func isDeadEnd(v view, p api.Port) bool { return len(v.takers(p)) == 0 }

// isJoined reports whether a port gives pressure to a net to which another one before it does.
func isJoined(v view, p api.Port) bool { return v.givers(p)[0] != p }

// isOpposed reports whether a port is the pilot plus of a valve whose pilot minus is in its net. Only 5/2 valves with two pilots have both.
func isOpposed(v view, p api.Port) bool {
	plus, minus, _ := part.Pilots(v.c.Parts[p.Part].Kind)
	return p.Name == plus && slices.Contains(v.nets[p], api.Port{Part: p.Part, Name: minus})
}
