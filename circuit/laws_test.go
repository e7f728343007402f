package circuit_test

import (
	"math/rand"
	"slices"
	"testing"

	"pneumatic/api"
	"pneumatic/circuit"
)

// P21.3

func netsOf(c api.Circuit) [][]api.Port {
	nets, _ := circuit.Nets(c)
	return nets
}

func TestEachPortIsInOneNet(t *testing.T) {
	for _, c := range append(someCircuits(224), large(), example()) {
		what := named("Nets", c)
		ports, _ := circuit.Ports(c)
		nets := netsOf(c)
		all := slices.Concat(nets...)
		slices.SortFunc(all, byOrder)
		expect(t, what, all, api.OK, ports, api.OK)
		for k, net := range nets {
			same(t, what, slices.IsSortedFunc(net, byOrder), true)
			same(t, what, k == 0 || isBefore(nets[k-1][0], net[0]), true)
		}
		for _, p := range ports[:min(len(ports), 100)] {
			at, e := circuit.Net(c, p)
			same(t, what, e, api.OK)
			same(t, what, slices.Contains(nets[at], p), true)
		}
		for _, x := range c.Pipes[:min(len(c.Pipes), 100)] {
			from, _ := circuit.Net(c, x.From)
			to, _ := circuit.Net(c, x.To)
			same(t, what, from, to)
		}
	}
}

func TestAPipeJoinsTwoNetsOrLiesWithinOne(t *testing.T) {
	r, seen := rand.New(rand.NewSource(225)), [2]int{}
	for _, c := range append(someCircuits(226), example()) {
		ports := allPorts(c)
		for range 10 {
			a, b := ports[r.Intn(len(ports))], ports[r.Intn(len(ports))]
			joined, e := circuit.Join(c, a, b)
			if e != api.OK {
				continue
			}
			first, _ := circuit.Net(c, a)
			second, _ := circuit.Net(c, b)
			var expected [][]api.Port
			for k, net := range netsOf(c) {
				if k != first && k != second {
					expected = append(expected, net)
				}
			}
			both := slices.Clone(netsOf(c)[first])
			if first != second {
				both = append(both, netsOf(c)[second]...)
			}
			slices.SortFunc(both, byOrder)
			expected = append(expected, both)
			slices.SortFunc(expected, func(x, y []api.Port) int { return byOrder(x[0], y[0]) })
			expect(t, named("Nets", c, a, b), netsOf(joined), e, expected, api.OK)
			if first == second {
				seen[0]++
			} else {
				seen[1]++
			}
		}
	}
	same(t, named("enough of", seen), seen[0] > 100 && seen[1] > 100, true)
}

func byOrder(a, b api.Port) int {
	switch {
	case isBefore(a, b):
		return -1
	case a == b:
		return 0
	}
	return 1
}

func TestToAddAPartIsToAddItsPorts(t *testing.T) {
	r, added := rand.New(rand.NewSource(227)), 0
	for _, c := range append(someCircuits(228), example(), api.Circuit{}) {
		for range 10 {
			p := randomPart(r)
			more, e := circuit.Add(c, p)
			if e != api.OK {
				continue
			}
			added++
			at, e := circuit.Find(more, p.Name)
			same(t, named("Find", more), e, api.OK)
			ports := portNames(p.Kind)
			nets := netsOf(more)
			same(t, named("Nets", more), len(nets), len(netsOf(c))+len(ports))
			for _, name := range ports {
				same(t, named("Nets", more), slices.ContainsFunc(nets, func(net []api.Port) bool {
					return len(net) == 1 && net[0] == api.Port{Part: at, Name: name}
				}), true)
			}
			less, e := circuit.Remove(more, p.Name)
			same(t, named("Remove", more, p), e, api.OK)
			same(t, named("Remove", more, p), circuit.Same(less, c), true)
		}
	}
	same(t, named("enough of", added), added > 500, true)
}

func TestPipesAreJoinedInAnyOrder(t *testing.T) {
	r := rand.New(rand.NewSource(229))
	for _, c := range append(someCircuits(230), example()) {
		x := api.Circuit{Parts: c.Parts}
		for _, k := range r.Perm(len(c.Pipes)) {
			a, b := c.Pipes[k].From, c.Pipes[k].To
			if r.Intn(2) == 0 {
				a, b = b, a
			}
			joined, e := circuit.Join(x, a, b)
			same(t, named("Join", x, a, b), e, api.OK)
			x = joined
		}
		same(t, named("Join", c, x), circuit.Same(c, x), true)
	}
}

// The rules of all layers about memory

// overwrite changes all that a circuit holds, up to the capacity of its memory.
func overwrite(c api.Circuit) {
	clear(c.Parts[:cap(c.Parts)])
	clear(c.Pipes[:cap(c.Pipes)])
}

func TestResultsAndArgumentsAreNotShared(t *testing.T) {
	for _, c := range append(someCircuits(231)[:100], example(), large()) {
		// An argument may have more memory than it shows.
		c.Parts = append(slices.Clone(c.Parts), api.Part{Kind: 3, Name: "behind"})[:len(c.Parts)]
		c.Pipes = append(slices.Clone(c.Pipes), api.Pipe{To: api.Port{Part: 9}})[:len(c.Pipes)]
		before := api.Circuit{Parts: slices.Clone(c.Parts[:cap(c.Parts)]), Pipes: slices.Clone(c.Pipes[:cap(c.Pipes)])}
		ports := allPorts(c)
		first, last := ports[0], ports[len(ports)-1]
		p := api.Part{Kind: 0, Name: "K"}
		circuits := func() []api.Circuit {
			joined, _ := circuit.Join(c, last, first)
			added, _ := circuit.Add(c, p)
			l := []api.Circuit{joined, added}
			for _, x := range c.Parts {
				removed, _ := circuit.Remove(c, x.Name)
				l = append(l, removed)
			}
			return l
		}
		nets := netsOf(c)
		kept, again := named("", nets), named("", circuits())
		all, _ := circuit.Ports(c)
		clear(all[:cap(all)])
		for k, net := range nets {
			for i := range net[:cap(net)] {
				net[:cap(net)][i] = api.Port{Part: -k, Name: "over"}
			}
			for _, other := range nets[k+1:] {
				same(t, "Nets", slices.Contains(other, api.Port{Part: -k, Name: "over"}), false)
			}
		}
		clear(nets[:cap(nets)])
		for _, x := range circuits() {
			overwrite(x)
		}
		same(t, "Nets", named("", netsOf(c)), kept)
		all, e := circuit.Ports(c)
		expect(t, "Ports", all, e, ports, api.OK)
		same(t, "changes", named("", circuits()), again)
		same(t, "arguments", circuit.Same(before, api.Circuit{Parts: c.Parts[:cap(c.Parts)], Pipes: c.Pipes[:cap(c.Pipes)]}), true)
	}
}

func TestNilAndEmptyAreEqual(t *testing.T) {
	for _, c := range []api.Circuit{{}, {Parts: []api.Part{}, Pipes: []api.Pipe{}}} {
		same(t, "Check", circuit.Check(c), api.OK)
		ports, e := circuit.Ports(c)
		expect(t, "Ports", ports, e, []api.Port{}, api.OK)
		nets, e := circuit.Nets(c)
		expect(t, "Nets", nets, e, []api.Port{}, api.OK)
		_, e = circuit.Find(c, "")
		same(t, "Find", e, api.ErrNone)
		_, e = circuit.Net(c, api.Port{})
		same(t, "Net", e, api.ErrRange)
		_, e = circuit.Join(c, api.Port{}, api.Port{})
		same(t, "Join", e, api.ErrRange)
		_, e = circuit.Remove(c, "")
		same(t, "Remove", e, api.ErrNone)
		_, _, e = circuit.Limits(c, "")
		same(t, "Limits", e, api.ErrNone)
	}
}
