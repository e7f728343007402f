package netlist

import (
	"cmp"
	"maps"
	"slices"
	"strings"

	"pneumatic/api"
	"pneumatic/circuit"
	"pneumatic/part"
)

// port is a port by the name of its part.
type port struct{ part, name string }

// pipe is a pipe by the names of its parts: from comes before to.
type pipe struct{ from, to port }

// plan has what a circuit has by names, so that it does not matter where a part is among the others.
type plan struct {
	parts map[string]api.Part
	pipes map[pipe]bool
}

func newPlan() plan {
	return plan{parts: map[string]api.Part{}, pipes: map[pipe]bool{}}
}

// planOf returns the plan of a circuit.
func planOf(c api.Circuit) plan {
	p := newPlan()
	for _, x := range c.Parts {
		p.parts[x.Name] = x
	}
	named := func(x api.Port) port { return port{c.Parts[x.Part].Name, x.Name} }
	for _, x := range c.Pipes {
		p.pipes[between(named(x.From), named(x.To))] = true
	}
	return p
}

// circuit returns the circuit with a plan, in which all parts and pipes are in order.
func (p plan) circuit() api.Circuit {
	var c api.Circuit
	index := map[string]int{}
	for k, name := range slices.Sorted(maps.Keys(p.parts)) {
		c.Parts = append(c.Parts, p.parts[name])
		index[name] = k
	}
	indexed := func(x port) api.Port { return api.Port{Part: index[x.part], Name: x.name} }
	for _, x := range slices.SortedFunc(maps.Keys(p.pipes), comparePipes) {
		c.Pipes = append(c.Pipes, api.Pipe{From: indexed(x.from), To: indexed(x.to)})
	}
	return c
}

// port returns the port with a text.
func (p plan) port(text string) (port, api.Errno) {
	name, its, found := strings.Cut(text, dot)
	if !found {
		return port{}, api.ErrSyntax
	}
	x, found := p.parts[name]
	if !found {
		return port{}, api.ErrNone
	}
	_, e := part.Role(x.Kind, its)
	return port{name, its}, e
}

// renamed returns the plan in which some parts have other names. It has fewer parts if two of them would have the same name.
func (p plan) renamed(names map[string]string) plan {
	newName := func(name string) string {
		if other, found := names[name]; found {
			return other
		}
		return name
	}
	changed := func(x port) port { return port{newName(x.part), x.name} }
	other := newPlan()
	for _, x := range p.parts {
		x.Name = newName(x.Name)
		other.parts[x.Name] = x
	}
	for x := range p.pipes {
		other.pipes[between(changed(x.from), changed(x.to))] = true
	}
	return other
}

// newNames returns which names change to which, when a part gets another name: its own, and those of its limit switches.
func newNames(c api.Circuit, old, name string) map[string]string {
	names := map[string]string{old: name}
	in, out, e := circuit.Limits(c, old)
	if e != api.OK {
		return names
	}
	for _, k := range []int{in, out} {
		if k >= 0 {
			limit := c.Parts[k].Name
			names[limit] = name + strings.TrimPrefix(limit, old)
		}
	}
	return names
}

// between returns the pipe between two ports, whichever comes first.
func between(a, b port) pipe {
	if comparePorts(a, b) > 0 {
		a, b = b, a
	}
	return pipe{a, b}
}

// comparePorts tells which of two ports comes first: parts are in the order of their names.
func comparePorts(a, b port) int {
	return cmp.Or(strings.Compare(a.part, b.part), strings.Compare(a.name, b.name))
}

// comparePipes tells which of two pipes comes first.
func comparePipes(a, b pipe) int {
	return cmp.Or(comparePorts(a.from, b.from), comparePorts(a.to, b.to))
}
