package circuit

import (
	"cmp"

	"pneumatic/api"
	"pneumatic/part"
)

// portsOf returns the ports of all parts, in order.
func portsOf(parts []api.Part) []api.Port {
	var l []api.Port
	for k, p := range parts {
		names, _ := part.Ports(p.Kind)
		for _, name := range names {
			l = append(l, api.Port{Part: k, Name: name})
		}
	}
	return l
}

// checkPort returns OK for ports of right parts.
func checkPort(parts []api.Part, p api.Port) api.Errno {
	if p.Part < 0 || p.Part >= len(parts) {
		return api.ErrRange
	}
	_, e := part.Role(parts[p.Part].Kind, p.Name)
	return e
}

// comparePorts tells which of two ports comes first.
func comparePorts(a, b api.Port) int {
	return cmp.Or(cmp.Compare(a.Part, b.Part), cmp.Compare(a.Name, b.Name))
}
