package pressure_test

import (
	"fmt"
	"math/rand"
	"slices"
	"strings"
	"testing"

	"pneumatic/api"
	"pneumatic/circuit"
	"pneumatic/netlist"
	"pneumatic/part"
	"pneumatic/pressure"
)

// P24.2

// stepped follows the definition, with the pilots of the table of layer 20.
func stepped(x scene) (next, conflicts []int) {
	f := factsOf(x)
	states := f.states()
	acts := func(k int, name string) bool { return f.stateOf(states, k, name) == 2 }
	for k, p := range x.c.Parts {
		position := x.positions[k]
		alone := map[int]string{part.Valve52S: "14", part.Valve32: "12", part.Valve32O: "10", part.Delay: "12", part.Counter: "12"}[p.Kind]
		switch {
		case p.Kind == part.Valve52 && acts(k, "14") && acts(k, "12"):
			conflicts = append(conflicts, k)
		case p.Kind == part.Valve52 && acts(k, "14"):
			position = 1
		case p.Kind == part.Valve52 && acts(k, "12"):
			position = 0
		case alone != "" && acts(k, alone):
			position = 1
		case alone != "":
			position = 0
		}
		next = append(next, position)
	}
	return next, conflicts
}

// rested follows the definition, and returns how many steps change something, 65 for more than 64.
func rested(x scene) (positions, conflicts []int, steps int) {
	acted := map[int]bool{}
	for steps <= 64 {
		next, both := stepped(x)
		for _, k := range both {
			acted[k] = true
		}
		if slices.Equal(next, x.positions) {
			for k := range x.c.Parts {
				if acted[k] {
					conflicts = append(conflicts, k)
				}
			}
			return next, conflicts, steps
		}
		x.positions = next
		steps++
	}
	return nil, nil, steps
}

func TestStep(t *testing.T) {
	moved, conflicts := 0, 0
	for _, x := range scenes(245, 1500) {
		expected, both := stepped(x)
		next, got, e := pressure.Step(x.c, x.positions)
		expect(t, named("Step", x), []any{next, got}, e, []any{expected, both}, api.OK)
		if !slices.Equal(expected, x.positions) {
			moved++
		}
		if len(both) > 0 {
			conflicts++
		}
	}
	same(t, named("enough of", moved, conflicts), min(moved, conflicts) > 100, true)
}

func TestRest(t *testing.T) {
	seen, lengths := map[api.Errno]int{}, map[int]int{}
	for _, x := range scenes(246, 1000) {
		f := api.OK
		expected, both, steps := rested(x)
		if steps > 64 {
			f = api.ErrRace
		}
		positions, conflicts, e := pressure.Rest(x.c, x.positions)
		expect(t, named("Rest", x), []any{positions, conflicts}, e, []any{expected, both}, f)
		seen[f]++
		lengths[steps]++
	}
	same(t, named("enough of", seen, lengths), seen[api.OK] > 1000 && seen[api.ErrRace] > 20 && lengths[3] > 20, true)
}

func TestStepsOfWrittenCircuits(t *testing.T) {
	for _, x := range []struct {
		parts, pipes    string
		positions       []int
		step, conflicts string
		rest, all       string
		e               api.Errno
	}{
		{"", "", nil, "[]", "[]", "[]", "[]", api.OK},
		{"S supply,V valve52s", "S.1 V.14", []int{0, 0}, "[0 1]", "[]", "[0 1]", "[]", api.OK}, {"S supply,V valve52s", "S.1 V.1", []int{0, 1}, "[0 0]", "[]", "[0 0]", "[]", api.OK},
		{"S supply,V valve52", "S.1 V.14", []int{0, 0}, "[0 1]", "[]", "[0 1]", "[]", api.OK}, {"S supply,V valve52", "S.1 V.12", []int{0, 1}, "[0 0]", "[]", "[0 0]", "[]", api.OK}, {"S supply,V valve52", "S.1 V.1", []int{0, 1}, "[0 1]", "[]", "[0 1]", "[]", api.OK},
		{"S supply,V valve52", "S.1 V.12,S.1 V.14", []int{0, 1}, "[0 1]", "[1]", "[0 1]", "[1]", api.OK}, {"S supply,V valve52", "S.1 V.12,S.1 V.14", []int{0, 0}, "[0 0]", "[1]", "[0 0]", "[1]", api.OK},
		{"S supply,V valve32o", "S.1 V.1,V.10 V.2", []int{0, 0}, "[0 1]", "[]", "[]", "[]", api.ErrRace},
		{"B button,S supply,V valve32", "B.1 S.1,B.2 V.12", []int{1, 0, 0}, "[1 0 1]", "[]", "[1 0 1]", "[]", api.OK}, {"B button,S supply,V valve32", "B.1 S.1,B.2 V.12", []int{0, 0, 1}, "[0 0 0]", "[]", "[0 0 0]", "[]", api.OK},
		{"A cylinder,A1 limit,S supply", "A.4 S.1", []int{0, 0, 0}, "[0 0 0]", "[]", "[0 0 0]", "[]", api.OK}, {"A cylinder,A1 limit,S supply", "A.2 S.1", []int{0, 1, 0}, "[0 1 0]", "[]", "[0 1 0]", "[]", api.OK},
		// Valves move at once: each one sees the air before the step.
		{"S supply,T valve32,U valve32,V valve32", "S.1 T.1,S.1 T.12,S.1 U.1,S.1 V.1,T.2 U.12,U.2 V.12", []int{0, 0, 0, 0}, "[0 1 0 0]", "[]", "[0 1 1 1]", "[]", api.OK},
		// A delay valve and a counter open without waiting.
		{"D delay 50,E counter,S supply", "D.12 S.1,E.12 S.1", []int{0, 0, 0}, "[1 1 0]", "[]", "[1 1 0]", "[]", api.OK},
		// The pilots of W contradict each other in the first two steps alone, and then not any more.
		{"S supply,U valve32o,V valve32,W valve52", "S.1 U.1,S.1 V.1,S.1 V.12,S.1 W.14,U.10 V.2,U.2 W.12", []int{0, 0, 0, 0}, "[0 0 1 0]", "[3]", "[0 1 1 1]", "[3]", api.OK}, {"S supply,U valve32o,V valve32,W valve52", "S.1 U.1,S.1 V.1,S.1 V.12,S.1 W.14,U.10 V.2,U.2 W.12", []int{0, 1, 1, 0}, "[0 1 1 1]", "[]", "[0 1 1 1]", "[]", api.OK},
	} {
		c := read(x.parts, x.pipes)
		next, conflicts, e := pressure.Step(c, x.positions)
		expect(t, named("Step", x), fmt.Sprint(next, conflicts), e, x.step+" "+x.conflicts, api.OK)
		rest, all, e := pressure.Rest(c, x.positions)
		if x.e == api.OK {
			expect(t, named("Rest", x), fmt.Sprint(rest, all), e, x.rest+" "+x.all, api.OK)
		} else {
			expect(t, named("Rest", x), []any{rest, all}, e, []any{[]int{}, []int{}}, x.e)
		}
	}
}

// wave returns a circuit with a row of valves that open one after the other; the last one moves a valve that takes the air from the first one, so that they shut one after the other; there are 2n + 1 steps that change something. With echo a further valve moves when the last one shuts.
func wave(n int, echo bool) api.Circuit {
	parts, pipes := "M valve52,S supply", "M.1 S.1"
	name := func(k int) string { return fmt.Sprintf("V%02d", k) }
	for k := range n {
		parts += "," + name(k) + " valve32"
		pipes += ",S.1 " + name(k) + ".1"
		if k > 0 {
			pipes += "," + name(k-1) + ".2 " + name(k) + ".12"
		}
	}
	pipes += ",M.2 " + name(0) + ".12,M.14 " + name(n-1) + ".2"
	if echo {
		parts += ",W valve32o"
		pipes += ",W.10 " + name(n-1) + ".2"
	}
	return read(parts, pipes)
}

func TestRestOfAsManySteps(t *testing.T) {
	for _, x := range []struct {
		n     int
		echo  bool
		steps int
	}{{1, false, 3}, {1, true, 4}, {5, false, 11}, {30, true, 62}, {31, false, 63}, {31, true, 64}, {32, false, 65}, {32, true, 66}, {60, false, 121}} {
		c := wave(x.n, x.echo)
		start := make([]int, len(c.Parts))
		positions, conflicts, e := pressure.Rest(c, start)
		_, _, steps := rested(scene{c, start})
		same(t, named("steps", x), steps, min(x.steps, 65))
		if x.steps > 64 {
			expect(t, named("Rest", x), []any{positions, conflicts}, e, []any{[]int{}, []int{}}, api.ErrRace)
			continue
		}
		// All valves have shut, but M keeps its position.
		expected := slices.Clone(start)
		expected[0] = 1
		expect(t, named("Rest", x), []any{positions, conflicts}, e, []any{expected, []int{}}, api.OK)
	}
}

func TestConflictsOfTheLastStep(t *testing.T) {
	c, e := netlist.Union(wave(31, true), read("X valve52", ""))
	same(t, "Union", e, api.OK)
	for _, pipe := range []string{"M.4 X.12", "S.1 W.1", "W.2 X.14"} {
		ends := strings.Fields(pipe)
		c, e = circuit.Join(c, port(c, ends[0]), port(c, ends[1]))
		same(t, "Join", e, api.OK)
	}
	// The pilots of X contradict each other in the step that changes nothing, and in none of the 64 before.
	positions := make([]int, len(c.Parts))
	rest, conflicts, e := pressure.Rest(c, positions)
	expect(t, "Rest", conflicts, e, []int{len(c.Parts) - 1}, api.OK)
	for range 64 {
		next, conflicts, e := pressure.Step(c, positions)
		expect(t, "Step", conflicts, e, []int{}, api.OK)
		same(t, named("Step", positions), slices.Equal(next, positions), false)
		positions = next
	}
	same(t, "Rest", fmt.Sprint(rest), fmt.Sprint(positions))
	_, conflicts, e = pressure.Step(c, positions)
	expect(t, "Step", conflicts, e, []int{len(c.Parts) - 1}, api.OK)
}

func TestExamplesOfTheDocument(t *testing.T) {
	c := driven()
	in, out := []int{0, 0, 0}, []int{0, 0, 1}
	same(t, "At", texts(t, scene{c, in}, "A.2 A.4"), "pressed vented")
	push, e := pressure.Push(c, in, "A")
	expect(t, "Push", push, e, -1, api.OK)
	push, e = pressure.Push(c, out, "A")
	expect(t, "Push", push, e, 1, api.OK)
	c, _ = circuit.Join(c, port(c, "V.14"), port(c, "S.1"))
	rest, conflicts, e := pressure.Rest(c, in)
	expect(t, "Rest", []any{rest, conflicts}, e, []any{out, []int{}}, api.OK)
	c = read("A cylinder,A0 limit,S supply,T twin", "S.1 T.1,S.1 T.11,A0.1 S.1")
	same(t, "At", texts(t, scene{c, []int{0, 0, 0, 0}}, "T.2 A0.2"), "pressed vented")
	same(t, "At", texts(t, scene{c, []int{0, 1, 0, 0}}, "T.2 A0.2"), "pressed pressed")
}

// P24.3

func TestEachNetUnderPressureHasASupplyOrAFlow(t *testing.T) {
	byFlow := 0
	for _, x := range scenes(247, 1500) {
		f := factsOf(x)
		states, _ := pressure.Nets(x.c, x.positions)
		flow, _ := pressure.Flow(x.c, x.positions)
		for k, net := range f.nets {
			supplied, flows := false, false
			for _, p := range net {
				_, passed := f.pass(p)
				supplied = supplied || x.c.Parts[p.Part].Kind == part.Supply
				flows = flows || passed && slices.Contains(flow, p.Part)
			}
			same(t, named("Nets and Flow", x, k), states[k] == pressure.Pressed, supplied || flows)
			if flows && !supplied {
				byFlow++
			}
		}
	}
	same(t, named("enough of", byFlow), byFlow > 1000, true)
}

func TestAFurtherPipeTakesPressureFromNoNet(t *testing.T) {
	r, changed := rand.New(rand.NewSource(248)), 0
	for _, x := range scenes(249, 1500) {
		more := x.c
		if len(x.c.Parts) > 0 {
			more = joinedAtRandom(r, x.c, 1)
		}
		before, _ := pressure.Nets(x.c, x.positions)
		behind, e := pressure.Nets(more, x.positions)
		same(t, "error of Nets", e, api.OK)
		netsBefore, netsBehind := factsOf(x).at, factsOf(scene{more, x.positions}).at
		for p, net := range netsBefore {
			now := behind[netsBehind[p]]
			if before[net] == pressure.Pressed {
				same(t, named("Nets", x, more, p), now, pressure.Pressed)
			} else if now == pressure.Pressed {
				changed++
			}
		}
	}
	same(t, named("enough of", changed), changed > 1000, true)
}

func TestPositionsAtRestRemain(t *testing.T) {
	for _, x := range scenes(250, 1500) {
		rest, _, e := pressure.Rest(x.c, x.positions)
		if e != api.OK {
			continue
		}
		next, conflicts, e := pressure.Step(x.c, rest)
		expect(t, named("Step", x, rest), next, e, rest, api.OK)
		again, all, e := pressure.Rest(x.c, rest)
		expect(t, named("Rest", x, rest), []any{again, all}, e, []any{rest, conflicts}, api.OK)
	}
}

func TestPartsWithoutPilotsNeverMove(t *testing.T) {
	kept := 0
	for _, x := range scenes(251, 1500) {
		next, _, _ := pressure.Step(x.c, x.positions)
		rest, _, e := pressure.Rest(x.c, x.positions)
		for k, p := range x.c.Parts {
			if plus, _, _ := part.Pilots(p.Kind); plus != "" {
				continue
			}
			same(t, named("Step", x), next[k], x.positions[k])
			if e == api.OK {
				same(t, named("Rest", x), rest[k], x.positions[k])
			}
			kept += x.positions[k]
		}
	}
	same(t, named("enough of", kept), kept > 500, true)
}

// The rules of all layers about memory

func TestResultsAndArgumentsAreNotShared(t *testing.T) {
	r := rand.New(rand.NewSource(252))
	for k := range 200 {
		x := anyIn(r, random(r, 1+k%12, 3))
		before, pipes := slices.Clone(x.positions), slices.Clone(x.c.Pipes)
		parts := slices.Clone(x.c.Parts)
		results := func(change bool) string {
			states, _ := pressure.Nets(x.c, x.positions)
			next, both, _ := pressure.Step(x.c, x.positions)
			rest, all, _ := pressure.Rest(x.c, x.positions)
			flow, _ := pressure.Flow(x.c, x.positions)
			lists := [][]int{states, next, both, rest, all, flow}
			text := fmt.Sprint(lists)
			for _, l := range lists {
				for i := range l[:cap(l)] {
					if change {
						l[:cap(l)][i] = 77
					}
				}
			}
			return text
		}
		first := results(true)
		same(t, named("results", x), results(false), first)
		same(t, named("arguments", x), slices.Equal(before, x.positions) && slices.Equal(pipes, x.c.Pipes) && slices.Equal(parts, x.c.Parts), true)
	}
}

func TestNilAndEmptyAreEqual(t *testing.T) {
	for _, c := range []api.Circuit{{}, {Parts: []api.Part{}, Pipes: []api.Pipe{}}} {
		for _, positions := range [][]int{nil, {}} {
			same(t, "Check", pressure.Check(c, positions), api.OK)
			states, e := pressure.Nets(c, positions)
			expect(t, "Nets", states, e, []int{}, api.OK)
			next, conflicts, e := pressure.Step(c, positions)
			expect(t, "Step", []any{next, conflicts}, e, []any{[]int{}, []int{}}, api.OK)
			next, conflicts, e = pressure.Rest(c, positions)
			expect(t, "Rest", []any{next, conflicts}, e, []any{[]int{}, []int{}}, api.OK)
			flow, e := pressure.Flow(c, positions)
			expect(t, "Flow", flow, e, []int{}, api.OK)
			_, e = pressure.At(c, positions, api.Port{})
			same(t, "At", e, api.ErrRange)
			_, e = pressure.Push(c, positions, "")
			same(t, "Push", e, api.ErrNone)
		}
	}
}
