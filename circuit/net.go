package circuit

import (
	"slices"

	"pneumatic/api"
)

// netsOf returns the nets of a circuit.
func netsOf(c api.Circuit) [][]api.Port {
	ports := portsOf(c.Parts)
	sets := map[api.Port][]api.Port{}
	first := map[api.Port]api.Port{}
	for _, p := range ports {
		sets[p], first[p] = []api.Port{p}, p
	}
	// A set is that of its first port: the nets are then found in the order of their first ports.
	merge := func(a, b api.Port) {
		for _, p := range sets[b] {
			first[p] = a
		}
		sets[a] = append(sets[a], sets[b]...)
		delete(sets, b)
	}
	for _, pipe := range c.Pipes {
		joint := between(first[pipe.From], first[pipe.To])
		if joint.From != joint.To {
			merge(joint.From, joint.To)
		}
	}
	var l [][]api.Port
	for _, p := range ports {
		if net := sets[p]; net != nil {
			slices.SortFunc(net, comparePorts)
			l = append(l, net)
		}
	}
	return l
}
