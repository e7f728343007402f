package inspect_test

import (
	"fmt"
	"slices"
	"testing"

	"pneumatic/api"
	"pneumatic/circuit"
	"pneumatic/inspect"
	"pneumatic/part"
)

// P22.2

// others are names that no part has.
var others = []string{"", "Z", "A.2", "a b", "A000"}

func TestDriver(t *testing.T) {
	seen := map[string]int{}
	for _, c := range circuits(224) {
		f := factsOf(c)
		what := named("Driver", c)
		for k, p := range c.Parts {
			valve, straight, expected := 0, false, api.ErrArg
			if p.Kind == part.Cylinder {
				valve, straight, expected = f.driver(k)
			}
			got, to4, e := inspect.Driver(c, p.Name)
			expect(t, what, []any{got, to4}, e, []any{valve, straight}, expected)
			seen[fmt.Sprint(expected, straight)]++
		}
		for _, name := range others {
			got, to4, e := inspect.Driver(c, name)
			expect(t, what, []any{got, to4}, e, []any{0, false}, api.ErrNone)
		}
	}
	same(t, named("enough of", seen), len(seen), 4)
	for kind, n := range seen {
		same(t, named("enough of", kind, seen), n > 80, true)
	}
}

func TestDriversOfCircuitsThatAreWritten(t *testing.T) {
	const parts = "A cylinder, B cylinder, S supply, V valve52, W valve52s, X valve32"
	for _, x := range []struct {
		pipes    string
		valve    int
		straight bool
		e        api.Errno
	}{
		{"A.2 V.2, A.4 V.4", 3, true, api.OK}, {"A.2 V.4, A.4 V.2", 3, false, api.OK}, {"A.2 W.2, A.4 W.4", 4, true, api.OK}, {"A.2 W.4, A.4 W.2", 4, false, api.OK},
		{"A.2 B.2, A.4 B.4, B.2 V.2, B.4 V.4", 3, true, api.OK}, {"A.2 B.4, A.4 B.2, B.2 V.2, B.4 V.4", 3, false, api.OK},
		{"A.2 V.2, A.4 V.4, A.2 W.1, A.4 X.12, A.4 V.3", 3, true, api.OK},
		{"", 0, false, api.ErrState}, {"A.2 V.2", 0, false, api.ErrState}, {"A.4 V.4", 0, false, api.ErrState}, {"A.2 A.4", 0, false, api.ErrState}, {"A.2 V.2, A.4 W.4", 0, false, api.ErrState}, {"A.2 V.2, A.4 V.5", 0, false, api.ErrState},
		{"A.2 V.2, A.4 V.4, A.2 A.4", 0, false, api.ErrState}, {"A.2 V.2, A.4 V.4, V.2 V.4", 0, false, api.ErrState}, {"A.2 V.2, A.2 V.4", 0, false, api.ErrState}, {"A.2 V.2, A.2 V.4, A.4 W.2", 0, false, api.ErrState},
		{"A.2 V.2, A.4 V.4, A.2 W.2", 0, false, api.ErrState}, {"A.2 V.2, A.4 V.4, A.2 W.2, A.4 W.4", 0, false, api.ErrState}, {"A.2 V.2, A.4 V.4, A.2 S.1", 0, false, api.ErrState}, {"A.2 V.2, A.4 V.4, A.4 X.2", 0, false, api.ErrState},
		{"A.2 X.2, A.4 V.4", 0, false, api.ErrState}, {"A.2 X.1, A.4 X.2", 0, false, api.ErrState}, {"B.2 V.2, B.4 V.4", 0, false, api.ErrState},
	} {
		valve, straight, e := inspect.Driver(read(parts, x.pipes), "A")
		expect(t, named("Driver", x), []any{valve, straight}, e, []any{x.valve, x.straight}, x.e)
	}
	valve, straight, e := inspect.Driver(example(), "A")
	expect(t, "Driver", []any{valve, straight}, e, []any{3, true}, api.OK)
	_, _, e = inspect.Driver(example(), "A0")
	same(t, "Driver", e, api.ErrArg)
	_, _, e = inspect.Driver(example(), "A1")
	same(t, "Driver", e, api.ErrNone)
}

func TestBehindAndIdle(t *testing.T) {
	itself, cylinders, idlers := 0, 0, 0
	for _, c := range circuits(225) {
		acts := factsOf(c).acts()
		what := named("Behind and Idle", c)
		var idle []int
		for k, p := range c.Parts {
			var behind []int
			isIdle := p.Kind != part.Cylinder
			for other, x := range c.Parts {
				if acts[k][other] {
					behind = append(behind, other)
					isIdle = isIdle && x.Kind != part.Cylinder
				}
			}
			if isIdle {
				idle = append(idle, k)
				idlers++
			} else if p.Kind != part.Cylinder {
				cylinders++
			}
			if acts[k][k] {
				itself++
			}
			got, e := inspect.Behind(c, p.Name)
			expect(t, what, got, e, behind, api.OK)
		}
		got, e := inspect.Idle(c)
		expect(t, what, got, e, idle, api.OK)
		for _, name := range others {
			got, e := inspect.Behind(c, name)
			expect(t, what, got, e, []int{}, api.ErrNone)
		}
	}
	same(t, named("enough of", itself, cylinders, idlers), min(itself, cylinders, idlers) > 500, true)
}

func TestActsOfCircuitsThatAreWritten(t *testing.T) {
	for _, x := range []struct {
		parts, pipes, name, behind, idle string
	}{
		{"A cylinder, A0 limit, S supply, V valve52s", "A.2 V.2, A.4 V.4, A0.1 S.1, S.1 V.1", "S", "[0 1 3]", "[1]"},
		{"A cylinder, A0 limit, S supply, V valve52s", "A.2 V.2, A.4 V.4, A0.1 S.1, S.1 V.1", "A", "[1]", "[1]"},
		{"A cylinder, A0 limit, S supply, V valve52s", "A.2 V.2, A.4 V.4, A0.1 S.1, A0.2 V.14, S.1 V.1", "A", "[0 1 3]", "[]"},
		{"A cylinder, A0 limit, S supply, V valve52s", "A.2 V.2, A.4 V.4, A0.1 S.1, A0.2 V.14, S.1 V.1", "S", "[0 1 3]", "[]"},
		{"A cylinder, A0 limit, A1 limit", "", "A", "[1 2]", "[1 2]"},
		{"A cylinder, A0 button, A1 supply", "", "A", "[]", "[1 2]"},
		{"A cylinder, A0 limit", "A.2 A0.2", "A", "[0 1]", "[]"},
		{"A cylinder, A0 limit", "A.2 A0.1", "A0", "[]", "[1]"},
		{"A cylinder, A0 limit", "A.2 A0.3", "A", "[1]", "[1]"},
		{"Q throttle", "Q.1 Q.2", "Q", "[0]", "[0]"},
		{"Q throttle", "", "Q", "[]", "[0]"},
		{"Q throttle, R throttle, T throttle", "Q.2 R.1, R.2 T.1", "Q", "[1 2]", "[0 1 2]"},
		{"Q throttle, R throttle, T throttle", "Q.2 R.1, R.2 T.1, Q.1 T.2", "R", "[0 1 2]", "[0 1 2]"},
		{"Q quick, R quick", "Q.3 R.1", "Q", "[]", "[0 1]"},
		{"Q quick, R quick", "Q.1 R.1", "Q", "[]", "[0 1]"},
		{"A cylinder, Q quick, R delay", "Q.2 R.12, A.2 R.2", "Q", "[0 2]", "[]"},
		{"", "", "", "[]", "[]"},
	} {
		c := read(x.parts, x.pipes)
		if x.name != "" {
			behind, e := inspect.Behind(c, x.name)
			expect(t, named("Behind", x), behind, e, x.behind, api.OK)
		}
		idle, e := inspect.Idle(c)
		expect(t, named("Idle", x), idle, e, x.idle, api.OK)
	}
}

// P22.3

func TestAFurtherPipe(t *testing.T) {
	taken, given := []int{inspect.OpenPilot, inspect.OpenChamber, inspect.Unfed, inspect.DeadEnd}, []int{inspect.Joined, inspect.Plugged, inspect.Opposed}
	seen := map[string]int{}
	for k, c := range circuits(226) {
		ports, _ := circuit.Ports(c)
		if len(ports) < 2 {
			continue
		}
		more, e := circuit.Join(c, ports[k%len(ports)], ports[k*7%len(ports)])
		if e != api.OK {
			continue
		}
		before, _ := inspect.Findings(c)
		behind, _ := inspect.Findings(more)
		for _, x := range before {
			if !slices.Contains(behind, x) {
				same(t, named("Findings", c, more, x), slices.Contains(taken, x.Kind), true)
				seen[fmt.Sprint("taken", x.Kind)]++
			}
		}
		for _, x := range behind {
			if !slices.Contains(before, x) {
				same(t, named("Findings", c, more, x), slices.Contains(given, x.Kind), true)
				seen[fmt.Sprint("given", x.Kind)]++
			}
		}
	}
	same(t, named("enough of", seen), len(seen), 7)
}

func TestLawsOfActing(t *testing.T) {
	driven := 0
	for _, c := range someOf(circuits(227), 2) {
		what := named("laws", c)
		findings, _ := inspect.Findings(c)
		idle, _ := inspect.Idle(c)
		for k, p := range c.Parts {
			behind, _ := inspect.Behind(c, p.Name)
			for _, other := range behind {
				next, _ := inspect.Behind(c, c.Parts[other].Name)
				for _, x := range next {
					same(t, what, slices.Contains(behind, x), true)
				}
				same(t, what, slices.Contains(idle, k) && !slices.Contains(idle, other), false)
			}
			if _, _, e := inspect.Driver(c, p.Name); e == api.OK {
				driven++
				for _, chamber := range []string{"2", "4"} {
					same(t, what, slices.Contains(findings, inspect.Finding{Kind: inspect.OpenChamber, At: api.Port{Part: k, Name: chamber}}), false)
				}
			}
		}
	}
	same(t, named("enough of", driven), driven > 50, true)
}

// The rules of all layers about memory

func TestResultsAndArgumentsAreNotShared(t *testing.T) {
	for _, c := range append(someOf(circuits(228), 50), example()) {
		if len(c.Parts) == 0 {
			continue
		}
		before := api.Circuit{Parts: slices.Clone(c.Parts), Pipes: slices.Clone(c.Pipes)}
		ports, _ := circuit.Ports(c)
		name := c.Parts[0].Name
		results := func(change bool) string {
			findings, _ := inspect.Findings(c)
			givers, _ := inspect.Givers(c, ports[0])
			takers, _ := inspect.Takers(c, ports[0])
			behind, _ := inspect.Behind(c, name)
			idle, _ := inspect.Idle(c)
			text := fmt.Sprint(findings, givers, takers, behind, idle)
			if change {
				clear(findings[:cap(findings)])
				clear(givers[:cap(givers)])
				clear(takers[:cap(takers)])
				clear(behind[:cap(behind)])
				clear(idle[:cap(idle)])
			}
			return text
		}
		first := results(true)
		same(t, named("results", c), results(false), first)
		same(t, named("arguments", c), circuit.Same(c, before), true)
	}
}

func TestNilAndEmptyAreEqual(t *testing.T) {
	for _, c := range []api.Circuit{{}, {Parts: []api.Part{}, Pipes: []api.Pipe{}}} {
		findings, e := inspect.Findings(c)
		expect(t, "Findings", findings, e, []int{}, api.OK)
		idle, e := inspect.Idle(c)
		expect(t, "Idle", idle, e, []int{}, api.OK)
		text, e := inspect.Text(c, inspect.Finding{})
		expect(t, "Text", text, e, "no supply", api.OK)
		_, e = inspect.Givers(c, api.Port{})
		same(t, "Givers", e, api.ErrRange)
		_, e = inspect.Behind(c, "")
		same(t, "Behind", e, api.ErrNone)
	}
}

func TestLargeCircuits(t *testing.T) {
	c := large()
	findings, e := inspect.Findings(c)
	expect(t, "Findings", findings, e, factsOf(c).findings(), api.OK)
	idle, e := inspect.Idle(c)
	expect(t, "Idle", len(idle), e, 64, api.OK)
	behind, e := inspect.Behind(c, "V07")
	expect(t, "Behind", behind, e, []int{}, api.OK)
	// The net of the ports 1 is joined to that of the ports 2.
	c.Pipes[len(c.Pipes)-1] = api.Pipe{From: api.Port{Part: 63, Name: "1"}, To: api.Port{Part: 63, Name: "2"}}
	behind, e = inspect.Behind(c, "V07")
	expect(t, "Behind", len(behind), e, 64, api.OK)
}
