package inspect

import (
	"maps"
	"slices"

	"pneumatic/api"
	"pneumatic/circuit"
	"pneumatic/part"
)

// view is a circuit with its ports, and the net of each of them.
type view struct {
	c     api.Circuit
	ports []api.Port
	nets  map[api.Port][]api.Port
}

// viewOf returns the view of a circuit.
func viewOf(c api.Circuit) (view, api.Errno) {
	nets, e := circuit.Nets(c)
	if e != api.OK {
		return view{}, e
	}
	v := view{c: c, nets: map[api.Port][]api.Port{}}
	for _, net := range nets {
		for _, p := range net {
			v.nets[p] = net
		}
	}
	v.ports, e = circuit.Ports(c)
	return v, e
}

// role returns the role of a port.
func (v view) role(p api.Port) int {
	role, _ := part.Role(v.c.Parts[p.Part].Kind, p.Name)
	return role
}

// givers returns the ports in the net of a port that give pressure.
func (v view) givers(p api.Port) []api.Port {
	return filtered(v.nets[p], func(p api.Port) bool { return v.role(p) == part.RoleOut })
}

// takers returns the ports in the net of a port that take pressure.
func (v view) takers(p api.Port) []api.Port {
	return filtered(v.nets[p], func(p api.Port) bool {
		role := v.role(p)
		return role == part.RoleIn || role == part.RolePilot || role == part.RoleChamber
	})
}

// filtered returns the ports that pass a test.
func filtered(ports []api.Port, passes func(p api.Port) bool) []api.Port {
	var l []api.Port
	for _, p := range ports {
		if passes(p) {
			l = append(l, p)
		}
	}
	return l
}

// drives reports whether a valve alone gives pressure to the chambers of a cylinder, its output 4 to the chamber 4.
func (v view) drives(valve, cylinder int) bool {
	return v.feeds(valve, "2", cylinder, "2") && v.feeds(valve, "4", cylinder, "4")
}

// drivesCrossed reports the same for its output 4 and the chamber 2.
func (v view) drivesCrossed(valve, cylinder int) bool {
	return v.feeds(valve, "4", cylinder, "2") && v.feeds(valve, "2", cylinder, "4")
}

// feeds reports whether an output of a valve is all that gives pressure to a chamber of a cylinder.
func (v view) feeds(valve int, output string, cylinder int, chamber string) bool {
	if kind := v.c.Parts[valve].Kind; kind != part.Valve52 && kind != part.Valve52S {
		return false
	}
	givers := v.givers(api.Port{Part: cylinder, Name: chamber})
	return slices.Equal(givers, []api.Port{{Part: valve, Name: output}})
}

// direct returns the parts that each part acts on directly: a cylinder has no port that gives pressure.
func (v view) direct() [][]int {
	l := make([][]int, len(v.c.Parts))
	for _, p := range v.ports {
		if v.role(p) == part.RoleOut {
			for _, taker := range v.takers(p) {
				l[p.Part] = append(l[p.Part], taker.Part)
			}
		}
	}
	for k, p := range v.c.Parts {
		if p.Kind == part.Cylinder {
			l[k] = v.limits(p.Name)
		}
	}
	return l
}

// limits returns the limit switches of a cylinder that exist.
func (v view) limits(name string) []int {
	in, out, _ := circuit.Limits(v.c, name)
	return slices.DeleteFunc([]int{in, out}, func(k int) bool { return k < 0 })
}

// behind returns the parts that a part acts on, if each part acts directly on some, ascending.
func behind(direct [][]int, k int) []int {
	acted := map[int]bool{}
	var follow func(k int)
	follow = func(k int) {
		for _, other := range direct[k] {
			if !acted[other] {
				acted[other] = true
				follow(other)
			}
		}
	}
	follow(k)
	return slices.Sorted(maps.Keys(acted))
}
