package netlist_test

import (
	"math/rand"
	"slices"
	"strings"
	"testing"

	"pneumatic/api"
	"pneumatic/circuit"
	"pneumatic/netlist"
)

// P23.3

func TestTextsAreReadBack(t *testing.T) {
	r := rand.New(rand.NewSource(240))
	for _, c := range append(someCircuits(241, 400), large(3), large(20), sized(16384)) {
		text, e := netlist.Format(c)
		same(t, named("error of Format", c), e, api.OK)
		again, at, e := netlist.Parse(text)
		expect(t, named("Parse", text), []any{again, at}, e, []any{c, 0}, api.OK)
		lines := strings.SplitAfter(text, "\n")
		lines = lines[:len(lines)-1]
		parts, pipes := lines[:len(c.Parts)], lines[len(c.Parts):]
		for range 3 {
			r.Shuffle(len(parts), func(i, k int) { parts[i], parts[k] = parts[k], parts[i] })
			r.Shuffle(len(pipes), func(i, k int) { pipes[i], pipes[k] = pipes[k], pipes[i] })
			other := strings.Join(lines, "")
			again, at, e := netlist.Parse(other)
			expect(t, named("Parse", other), []any{again, at}, e, []any{c, 0}, api.OK)
		}
	}
}

func TestPortsAreReadBack(t *testing.T) {
	for _, c := range someCircuits(242, 60) {
		ports, _ := circuit.Ports(c)
		for _, p := range ports {
			text, e := netlist.Port(c, p)
			same(t, named("error of Port", c, p), e, api.OK)
			again, e := netlist.ReadPort(c, text)
			expect(t, named("ReadPort", c, text), again, e, p, api.OK)
		}
	}
}

func TestToRenameBackLeadsBack(t *testing.T) {
	changed := 0
	for _, c := range someCircuits(243, 150) {
		for _, p := range c.Parts {
			for _, name := range names {
				other, e := netlist.Rename(c, p.Name, name)
				if e != api.OK {
					continue
				}
				changed++
				back, e := netlist.Rename(other, name, p.Name)
				expect(t, named("Rename", other, name, p.Name), back, e, c, api.OK)
			}
		}
	}
	same(t, named("enough of", changed), changed > 1000, true)
}

// rejoined returns the parts of a circuit with other pipes.
func rejoined(r *rand.Rand, c api.Circuit, pipes int) api.Circuit {
	ports, _ := circuit.Ports(c)
	c.Pipes = nil
	for range min(pipes, len(ports)) {
		if x, e := circuit.Join(c, ports[r.Intn(len(ports))], ports[r.Intn(len(ports))]); e == api.OK {
			c = x
		}
	}
	return c
}

func TestLawsOfUnions(t *testing.T) {
	r, united, joined := rand.New(rand.NewSource(244)), 0, 0
	circuits := someCircuits(245, 200)
	for _, a := range circuits {
		itself, e := netlist.Union(a, a)
		expect(t, named("Union", a), itself, e, a, api.OK)
		for _, b := range []api.Circuit{piece(r, a), rejoined(r, a, 6), rejoined(r, piece(r, a), 4), random(r, 2, 3), random(r, 3, 5), circuits[r.Intn(len(circuits))]} {
			union, e := netlist.Union(a, b)
			back, f := netlist.Union(b, a)
			expect(t, named("Union", b, a), back, f, union, e)
			if e != api.OK {
				continue
			}
			united++
			joined += checkNets(t, a, union) + checkNets(t, b, union)
		}
	}
	same(t, named("enough of", united, joined), united > 500 && joined > 5000, true)
}

// checkNets checks that the nets of a circuit are joined in a union, and returns how many pairs of ports were joined.
func checkNets(t *testing.T, c, union api.Circuit) int {
	t.Helper()
	pairs := 0
	nets, _ := circuit.Nets(c)
	for _, net := range nets {
		netOf := func(p api.Port) int {
			at, e := circuit.Find(union, c.Parts[p.Part].Name)
			same(t, named("error of Find", union, p), e, api.OK)
			k, e := circuit.Net(union, api.Port{Part: at, Name: p.Name})
			same(t, named("error of Net", union, p), e, api.OK)
			return k
		}
		for _, p := range net[1:] {
			pairs++
			same(t, named("Net", c, union, p), netOf(p), netOf(net[0]))
		}
	}
	return pairs
}

// The rules of all layers about memory

func TestResultsAndArgumentsAreNotShared(t *testing.T) {
	for _, c := range append(someCircuits(246, 100)[1:], large(3)) {
		// An argument may have more memory than it shows.
		c.Parts = append(slices.Clone(c.Parts), api.Part{Kind: 3, Name: "behind"})[:len(c.Parts)]
		c.Pipes = append(slices.Clone(c.Pipes), api.Pipe{To: api.Port{Part: 9}})[:len(c.Pipes)]
		before := api.Circuit{Parts: slices.Clone(c.Parts[:cap(c.Parts)]), Pipes: slices.Clone(c.Pipes[:cap(c.Pipes)])}
		name := c.Parts[0].Name
		results := func() []api.Circuit {
			text, _ := netlist.Format(c)
			parsed, _, _ := netlist.Parse(text)
			changed, _ := netlist.Rename(c, name, "K")
			unchanged, _ := netlist.Rename(c, name, name)
			itself, _ := netlist.Union(c, c)
			first, _ := netlist.Union(c, api.Circuit{})
			second, _ := netlist.Union(api.Circuit{}, c)
			return []api.Circuit{parsed, changed, unchanged, itself, first, second}
		}
		expected := named("", results())
		for _, x := range results() {
			clear(x.Parts[:cap(x.Parts)])
			clear(x.Pipes[:cap(x.Pipes)])
		}
		same(t, "results", named("", results()), expected)
		count, _ := netlist.Count(c)
		kept := slices.Clone(count)
		clear(count[:cap(count)])
		count, e := netlist.Count(c)
		expect(t, "Count", count, e, kept, api.OK)
		same(t, "arguments", circuit.Same(before, api.Circuit{Parts: c.Parts[:cap(c.Parts)], Pipes: c.Pipes[:cap(c.Pipes)]}), true)
	}
}

func TestNilAndEmptyAreEqual(t *testing.T) {
	for _, c := range []api.Circuit{{}, {Parts: []api.Part{}, Pipes: []api.Pipe{}}} {
		text, e := netlist.Format(c)
		expect(t, "Format", text, e, "", api.OK)
		_, e = netlist.Port(c, api.Port{})
		same(t, "Port", e, api.ErrRange)
		_, e = netlist.ReadPort(c, "A.1")
		same(t, "ReadPort", e, api.ErrNone)
		_, e = netlist.Rename(c, "", "A")
		same(t, "Rename", e, api.ErrNone)
		union, e := netlist.Union(c, c)
		expect(t, "Union", union, e, api.Circuit{}, api.OK)
		union, e = netlist.Union(c, example())
		expect(t, "Union", union, e, example(), api.OK)
	}
}
