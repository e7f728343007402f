package pressure

import (
	"slices"

	"pneumatic/api"
	"pneumatic/circuit"
	"pneumatic/part"
)

// network is a circuit with the index of the net of each port, and the number of the nets.
type network struct {
	c     api.Circuit
	net   map[api.Port]int
	count int
}

// networkOf returns the network of a circuit that was checked.
func networkOf(c api.Circuit) network {
	nets, _ := circuit.Nets(c)
	n := network{c: c, net: map[api.Port]int{}, count: len(nets)}
	for k, net := range nets {
		for _, p := range net {
			n.net[p] = k
		}
	}
	return n
}

// nets returns the nets of ports of a part.
func (n network) nets(k int, names []string) []int {
	var l []int
	for _, name := range names {
		l = append(l, n.net[api.Port{Part: k, Name: name}])
	}
	return l
}

// supplies returns the nets with ports of supplies.
func (n network) supplies() []int {
	var l []int
	for k, p := range n.c.Parts {
		if p.Kind == part.Supply {
			ports, _ := part.Ports(p.Kind)
			l = append(l, n.nets(k, ports)...)
		}
	}
	return l
}

// openings returns the nets with exhausts, or with ports that their parts vent in their positions.
func (n network) openings(positions []int) []int {
	var l []int
	for k, p := range n.c.Parts {
		ports, _ := part.Ports(p.Kind)
		exhausts := slices.DeleteFunc(ports, func(name string) bool {
			role, _ := part.Role(p.Kind, name)
			return role != part.RoleExhaust
		})
		vents, _ := part.Vents(p.Kind, positions[k])
		l = append(l, n.nets(k, slices.Concat(exhausts, vents))...)
	}
	return l
}

// ways returns how the parts pass pressure in their positions, in the order of the parts.
func (n network) ways(positions []int) []way {
	var l []way
	for k, p := range n.c.Parts {
		passes, _ := part.Passes(p.Kind, positions[k])
		for _, x := range passes {
			to := n.net[api.Port{Part: k, Name: x.To}]
			l = append(l, way{part: k, to: to, from: n.nets(k, x.From), all: x.All})
		}
	}
	return l
}

// states returns the states of all nets.
func (n network) states(positions []int) []int {
	states := make([]int, n.count)
	ways := n.ways(positions)
	spread(states, Pressed, always(n.supplies()), along(ways, func(w way) bool { return w.isFed(states) }))
	spread(states, Vented, always(n.openings(positions)), along(ways, func(w way) bool { return w.isOpen(states) }))
	return states
}

// isPressed reports whether a part has a port with a name, and it is under pressure.
func (n network) isPressed(states []int, k int, name string) bool {
	net, found := n.net[api.Port{Part: k, Name: name}]
	return found && states[net] == Pressed
}

// step returns the positions behind the pilots, and the parts whose pilots contradict each other.
func (n network) step(positions []int) (next, conflicts []int) {
	states := n.states(positions)
	for k, p := range n.c.Parts {
		plus, minus, _ := part.Pilots(p.Kind)
		position, conflict, _ := part.Next(p.Kind, positions[k], n.isPressed(states, k, plus), n.isPressed(states, k, minus))
		next = append(next, position)
		if conflict {
			conflicts = append(conflicts, k)
		}
	}
	return next, conflicts
}
