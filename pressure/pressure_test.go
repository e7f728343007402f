package pressure_test

import (
	"fmt"
	"math"
	"math/rand"
	"slices"
	"strings"
	"testing"

	"pneumatic/api"
	"pneumatic/circuit"
	"pneumatic/netlist"
	"pneumatic/part"
	"pneumatic/pressure"
)

func same[T comparable](t *testing.T, what string, got, expected T) {
	t.Helper()
	if got != expected {
		t.Errorf("%s: %v instead of %v", what, got, expected)
	}
}

// expect compares a result and an error with those that are expected. Nil and empty lists are equal.
func expect(t *testing.T, what string, got any, e api.Errno, expected any, f api.Errno) {
	t.Helper()
	same(t, what, fmt.Sprint(got), fmt.Sprint(expected))
	same(t, "error of "+what, e, f)
}

func named(function string, arguments ...any) string {
	return function + " of " + fmt.Sprint(arguments...)
}

// read returns the circuit with parts like "A cylinder" and pipes like "A.2 V.2", with commas between.
func read(parts, pipes string) api.Circuit {
	text := ""
	for _, x := range [][2]string{{"part ", parts}, {"pipe ", pipes}} {
		for _, line := range strings.Split(x[1], ",") {
			if line != "" {
				text += x[0] + line + "\n"
			}
		}
	}
	c, at, e := netlist.Parse(text)
	if e != api.OK {
		panic(fmt.Sprint(text, at, e))
	}
	return c
}

// port returns the port with a text like "A.2".
func port(c api.Circuit, text string) api.Port {
	p, e := netlist.ReadPort(c, text)
	if e != api.OK {
		panic(text)
	}
	return p
}

// driven is the circuit of the document's first example.
func driven() api.Circuit {
	return read("A cylinder,S supply,V valve52s", "S.1 V.1,A.2 V.2,A.4 V.4")
}

// odd are numbers that are no positions.
var odd = []int{-1, -2, 2, 3, math.MinInt, math.MaxInt, api.None, 1 << 40}

// scene is a circuit with positions of its parts.
type scene struct {
	c         api.Circuit
	positions []int
}

// positionsOf returns how many positions a part has.
func positionsOf(p api.Part) int {
	count, _ := part.Positions(p.Kind)
	return count
}

// anyIn returns a circuit with random positions.
func anyIn(r *rand.Rand, c api.Circuit) scene {
	var l []int
	for _, p := range c.Parts {
		l = append(l, r.Intn(positionsOf(p)))
	}
	return scene{c, l}
}

// allIn returns a circuit in all positions of its parts.
func allIn(c api.Circuit) []scene {
	lists := [][]int{{}}
	for _, p := range c.Parts {
		var longer [][]int
		for _, l := range lists {
			for position := range positionsOf(p) {
				longer = append(longer, append(slices.Clone(l), position))
			}
		}
		lists = longer
	}
	var l []scene
	for _, positions := range lists {
		l = append(l, scene{c, positions})
	}
	return l
}

func partOf(kind int, name string) api.Part {
	p := api.Part{Kind: kind, Name: name}
	if kind == part.Delay {
		p.Delay = 50
	}
	return p
}

// joinedAtRandom returns a circuit with further pipes.
func joinedAtRandom(r *rand.Rand, c api.Circuit, pipes int) api.Circuit {
	ports, _ := circuit.Ports(c)
	for range pipes {
		if joined, e := circuit.Join(c, ports[r.Intn(len(ports))], ports[r.Intn(len(ports))]); e == api.OK {
			c = joined
		}
	}
	return c
}

// small returns circuits of a supply and one or two parts of any kinds, in all positions.
func small(seed int64) []scene {
	r := rand.New(rand.NewSource(seed))
	l := []scene{{}}
	for first := range part.Kinds {
		for second := range part.Kinds + 1 {
			c := api.Circuit{Parts: []api.Part{partOf(first, "A")}}
			if second < part.Kinds {
				c.Parts = append(c.Parts, partOf(second, "A1"))
			}
			c.Parts = append(c.Parts, partOf(part.Supply, "S"))
			if circuit.Check(c) != api.OK {
				continue
			}
			for pipes := range 9 {
				l = append(l, allIn(joinedAtRandom(r, c, pipes))...)
			}
		}
	}
	return l
}

// random returns a circuit with parts of all kinds, with a supply or more.
func random(r *rand.Rand, parts, pipes int) api.Circuit {
	names := []string{"A", "A0", "A1", "B", "B0", "C", "C1", "O", "P", "Q", "R", "T", "U", "V", "W", "X", "Y", "a", "b"}
	c := api.Circuit{Parts: []api.Part{partOf(part.Supply, "S")}}
	for len(c.Parts) < parts {
		kind := r.Intn(part.Kinds)
		if r.Intn(2) == 0 {
			kind = []int{part.Valve52, part.Valve52S, part.Valve32, part.Valve32O}[r.Intn(4)]
		}
		if added, e := circuit.Add(c, partOf(kind, names[r.Intn(len(names))])); e == api.OK {
			c = added
		}
	}
	return fed(r, joinedAtRandom(r, c, pipes))
}

// fed returns a circuit in which many inputs are joined to the supply S or to an output, and many pilots and chambers to an output.
func fed(r *rand.Rand, c api.Circuit) api.Circuit {
	ports, _ := circuit.Ports(c)
	with := func(role int) []api.Port {
		return slices.DeleteFunc(slices.Clone(ports), func(p api.Port) bool {
			its, _ := part.Role(c.Parts[p.Part].Kind, p.Name)
			return its != role
		})
	}
	join := func(a, b api.Port) {
		if joined, e := circuit.Join(c, a, b); e == api.OK {
			c = joined
		}
	}
	outputs := with(part.RoleOut)
	for _, p := range with(part.RoleIn) {
		switch r.Intn(4) {
		case 0, 1:
			join(p, port(c, "S.1"))
		case 2:
			join(p, outputs[r.Intn(len(outputs))])
		}
	}
	for _, p := range append(with(part.RolePilot), with(part.RoleChamber)...) {
		if r.Intn(4) > 0 {
			join(p, outputs[r.Intn(len(outputs))])
		}
	}
	return c
}

// scenes returns small and random circuits with positions.
func scenes(seed int64, count int) []scene {
	r := rand.New(rand.NewSource(seed))
	l := small(seed)
	for k := range count {
		l = append(l, anyIn(r, random(r, 1+k%14, r.Intn(4))))
	}
	return append(l, allIn(driven())...)
}

// facts has what the definitions need: for each net its ports, and for each port its net.
type facts struct {
	scene
	nets [][]api.Port
	at   map[api.Port]int
}

func factsOf(x scene) facts {
	f := facts{scene: x, at: map[api.Port]int{}}
	f.nets, _ = circuit.Nets(x.c)
	for k, net := range f.nets {
		for _, p := range net {
			f.at[p] = k
		}
	}
	return f
}

// pass returns how pressure comes to a port from its part, and whether it does.
func (f facts) pass(p api.Port) (part.Pass, bool) {
	passes, _ := part.Passes(f.c.Parts[p.Part].Kind, f.positions[p.Part])
	at := slices.IndexFunc(passes, func(x part.Pass) bool { return x.To == p.Name })
	if at < 0 {
		return part.Pass{}, false
	}
	return passes[at], true
}

// from returns how many of the ports From of a pass are in nets of a set, and how many there are.
func (f facts) from(k int, x part.Pass, set map[int]bool) (in, all int) {
	for _, name := range x.From {
		if set[f.at[api.Port{Part: k, Name: name}]] {
			in++
		}
	}
	return in, len(x.From)
}

// getsPressure reports whether a net has to be in a set of nets under pressure.
func (f facts) getsPressure(net int, set map[int]bool) bool {
	return slices.ContainsFunc(f.nets[net], func(p api.Port) bool {
		if f.c.Parts[p.Part].Kind == part.Supply {
			return true
		}
		x, passed := f.pass(p)
		in, all := f.from(p.Part, x, set)
		return passed && (in == all || in > 0 && !x.All)
	})
}

// isOpened reports whether a net has to be in a set of vented nets, if it is not under pressure.
func (f facts) isOpened(net int, set map[int]bool) bool {
	return slices.ContainsFunc(f.nets[net], func(p api.Port) bool {
		kind := f.c.Parts[p.Part].Kind
		role, _ := part.Role(kind, p.Name)
		vents, _ := part.Vents(kind, f.positions[p.Part])
		x, passed := f.pass(p)
		in, _ := f.from(p.Part, x, set)
		return role == part.RoleExhaust || slices.Contains(vents, p.Name) || passed && in > 0
	})
}

// states follows the definition: nets are taken into the sets one by one.
func (f facts) states() []int {
	l := make([]int, len(f.nets))
	grow := func(state int, belongs func(net int, set map[int]bool) bool) {
		set := map[int]bool{}
		for {
			net := -1
			for k := range l {
				if l[k] == 0 && belongs(k, set) {
					net = k
				}
			}
			if net < 0 {
				return
			}
			set[net], l[net] = true, state
		}
	}
	grow(2, f.getsPressure)
	grow(1, f.isOpened)
	return l
}

// leastStates follows the definition for few nets: a net is in the least set if it is in all sets that have what has to be in them.
func (f facts) leastStates() []int {
	l := make([]int, len(f.nets))
	least := func(state int, belongs func(net int, set map[int]bool) bool) {
		inAll := map[int]bool{}
		for k := range l {
			inAll[k] = l[k] == 0
		}
		for bits := range 1 << len(l) {
			set, right := map[int]bool{}, true
			for k := range l {
				set[k] = bits>>k&1 == 1
			}
			for k := range l {
				right = right && (l[k] == 0 || !set[k]) && (set[k] || l[k] != 0 || !belongs(k, set))
			}
			for k := range l {
				inAll[k] = inAll[k] && (!right || set[k])
			}
		}
		for k := range l {
			if inAll[k] {
				l[k] = state
			}
		}
	}
	least(2, f.getsPressure)
	least(1, f.isOpened)
	return l
}

// stateOf returns the state of the net of a port by its name, 0 if there is no such port.
func (f facts) stateOf(states []int, k int, name string) int {
	net, found := f.at[api.Port{Part: k, Name: name}]
	if !found {
		return 0
	}
	return states[net]
}

// P24.1

func TestConstants(t *testing.T) {
	same(t, "states", [3]int{pressure.Shut, pressure.Vented, pressure.Pressed}, [3]int{0, 1, 2})
}

// expectAll compares the errors and the results of all functions.
func expectAll(t *testing.T, c api.Circuit, positions []int, f api.Errno) {
	t.Helper()
	what := named("errors", c, positions)
	same(t, what, pressure.Check(c, positions), f)
	states, e := pressure.Nets(c, positions)
	expect(t, what, states, e, []int{}, f)
	next, conflicts, e := pressure.Step(c, positions)
	expect(t, what, []any{next, conflicts}, e, []any{[]int{}, []int{}}, f)
	next, conflicts, e = pressure.Rest(c, positions)
	expect(t, what, []any{next, conflicts}, e, []any{[]int{}, []int{}}, f)
	flow, e := pressure.Flow(c, positions)
	expect(t, what, flow, e, []int{}, f)
	for _, p := range []api.Port{{}, {Name: "1"}, {Part: -1, Name: "1"}, {Part: 64}} {
		state, e := pressure.At(c, positions, p)
		expect(t, what, state, e, 0, f)
	}
	for _, name := range []string{"", "A", "S", "x"} {
		push, e := pressure.Push(c, positions, name)
		expect(t, what, push, e, 0, f)
	}
}

func TestCheck(t *testing.T) {
	many, backwards := api.Circuit{Parts: make([]api.Part, 65)}, driven()
	slices.Reverse(backwards.Pipes)
	for _, c := range []api.Circuit{many, backwards, {Parts: []api.Part{{}}}, {Parts: []api.Part{{Kind: 14, Name: "A"}}}, {Parts: []api.Part{partOf(part.Limit, "A0")}}, {Pipes: []api.Pipe{{}}}, {Parts: driven().Parts, Pipes: make([]api.Pipe, 257)}} {
		f := circuit.Check(c)
		same(t, "Check", f == api.OK, false)
		expectAll(t, c, nil, f)
		expectAll(t, c, make([]int, len(c.Parts)), f)
		expectAll(t, c, []int{-1}, f)
	}
	kinds := read("A supply,B cylinder,B0 limit,C valve52,D valve52s,E valve32,F valve32o,G button,H shuttle,I twin,J quick,K throttle,L delay 5,M counter", "")
	for _, c := range []api.Circuit{kinds, driven(), {}} {
		right := make([]int, len(c.Parts))
		same(t, named("Check", c), pressure.Check(c, right), api.OK)
		expectAll(t, c, append(slices.Clone(right), 0), api.ErrShape)
		expectAll(t, c, append(slices.Clone(right), -1), api.ErrShape)
		for k, p := range c.Parts {
			expectAll(t, c, right[1:], api.ErrShape)
			for _, position := range append([]int{0, 1}, odd...) {
				l := slices.Clone(right)
				l[k] = position
				twoPositions := !slices.Contains([]int{part.Supply, part.Cylinder, part.Shuttle, part.Twin, part.Quick, part.Throttle}, p.Kind)
				if position == 0 || position == 1 && twoPositions {
					same(t, named("Check", c, l), pressure.Check(c, l), api.OK)
				} else {
					expectAll(t, c, l, api.ErrRange)
				}
			}
		}
	}
}

func TestNetsOfFewNets(t *testing.T) {
	seen := [3]int{}
	for _, x := range small(241) {
		f := factsOf(x)
		if len(f.nets) > 9 {
			continue
		}
		expected := f.leastStates()
		states, e := pressure.Nets(x.c, x.positions)
		expect(t, named("Nets", x), states, e, expected, api.OK)
		expect(t, named("definition", x), f.states(), e, expected, api.OK)
		for _, state := range expected {
			seen[state]++
		}
	}
	same(t, named("enough of", seen), min(seen[0], seen[1], seen[2]) > 1000, true)
}

func TestNetsAndAt(t *testing.T) {
	seen := [3]int{}
	for i, x := range scenes(242, 1500) {
		f := factsOf(x)
		expected := f.states()
		states, e := pressure.Nets(x.c, x.positions)
		expect(t, named("Nets", x), states, e, expected, api.OK)
		for k, net := range f.nets {
			if p := net[len(net)-1]; i%4 == 0 {
				state, e := pressure.At(x.c, x.positions, p)
				expect(t, named("At", x, p), state, e, expected[k], api.OK)
			}
			seen[expected[k]]++
		}
	}
	same(t, named("enough of", seen), min(seen[0], seen[1], seen[2]) > 3000, true)
}

func TestErrorsOfAt(t *testing.T) {
	for _, x := range append(allIn(driven()), scene{}) {
		for _, k := range []int{len(x.c.Parts), -1, math.MinInt, math.MaxInt, api.None} {
			for _, name := range []string{"1", ""} {
				state, e := pressure.At(x.c, x.positions, api.Port{Part: k, Name: name})
				expect(t, named("At", x, k), state, e, 0, api.ErrRange)
			}
		}
		for k := range x.c.Parts {
			for _, name := range []string{"", "6", "01", "S"} {
				state, e := pressure.At(x.c, x.positions, api.Port{Part: k, Name: name})
				expect(t, named("At", x, k, name), state, e, 0, api.ErrNone)
			}
		}
	}
}

// texts tells the states of ports with texts.
func texts(t *testing.T, x scene, ports string) string {
	t.Helper()
	var l []string
	for _, text := range strings.Fields(ports) {
		state, e := pressure.At(x.c, x.positions, port(x.c, text))
		same(t, "error of At", e, api.OK)
		l = append(l, []string{"shut", "vented", "pressed"}[state])
	}
	return strings.Join(l, " ")
}

func TestStatesOfWrittenCircuits(t *testing.T) {
	for _, x := range []struct {
		parts, pipes string
		positions    []int
		ports        string
		states       string
	}{
		{"S supply", "", []int{0}, "S.1", "pressed"},
		{"A cylinder,S supply", "A.2 S.1", []int{0, 0}, "A.2 A.4 S.1", "pressed shut pressed"},
		{"S supply,V valve52", "S.1 V.1", []int{0, 0}, "V.1 V.2 V.4 V.3 V.5 V.12 V.14", "pressed pressed vented vented vented shut shut"},
		{"S supply,V valve52", "S.1 V.1", []int{0, 1}, "V.1 V.2 V.4 V.3 V.5 V.12 V.14", "pressed vented pressed vented vented shut shut"},
		{"V valve52", "", []int{0}, "V.1 V.2 V.4", "shut shut vented"},
		{"S supply,V valve32", "S.1 V.1", []int{0, 0}, "V.1 V.2 V.3", "pressed vented vented"}, {"S supply,V valve32", "S.1 V.1", []int{0, 1}, "V.1 V.2 V.3", "pressed pressed vented"},
		{"S supply,V valve32o", "S.1 V.1", []int{0, 0}, "V.1 V.2 V.3", "pressed pressed vented"}, {"S supply,V valve32o", "S.1 V.1", []int{0, 1}, "V.1 V.2 V.3", "pressed vented vented"},
		{"S supply,T twin", "S.1 T.1", []int{0, 0}, "T.1 T.11 T.2", "pressed shut shut"}, {"S supply,T twin", "S.1 T.1,S.1 T.11", []int{0, 0}, "T.1 T.11 T.2", "pressed pressed pressed"}, {"S supply,T twin", "S.1 T.1,T.11 T.2", []int{0, 0}, "T.1 T.11 T.2", "pressed shut shut"},
		{"S supply,T shuttle", "S.1 T.11", []int{0, 0}, "T.1 T.11 T.2", "shut pressed pressed"}, {"S supply,T shuttle", "", []int{0, 0}, "T.1 T.11 T.2", "shut shut shut"},
		// What is vented goes on through one input, also of two-pressure valves, but not against the way of pressure.
		{"B button,T twin", "B.2 T.1", []int{0, 0}, "T.1 T.11 T.2", "vented shut vented"}, {"B button,T shuttle", "B.2 T.11", []int{0, 0}, "T.1 T.11 T.2", "shut vented vented"}, {"B button,T throttle", "B.2 T.2", []int{0, 0}, "T.1 T.2", "shut vented"}, {"B button,Q quick,T throttle", "B.2 Q.1,Q.2 T.1", []int{0, 0, 0}, "Q.1 Q.2 Q.3 T.2", "vented vented vented vented"},
		{"B button,S supply,T twin", "B.2 T.1,S.1 T.11", []int{0, 0, 0}, "T.1 T.11 T.2", "vented pressed vented"}, {"B button,S supply,T shuttle", "B.2 T.1,S.1 T.11", []int{0, 0, 0}, "T.1 T.11 T.2", "vented pressed pressed"},
		// Pressure is stronger than exhausts.
		{"B button,S supply", "B.2 S.1", []int{0, 0}, "B.2 B.3", "pressed vented"}, {"B button,S supply", "B.3 S.1", []int{0, 0}, "B.2 B.3", "vented pressed"}, {"B button,S supply,T throttle", "B.3 S.1,S.1 T.1", []int{0, 0, 0}, "T.2", "pressed"},
		// A circle alone has no pressure.
		{"T throttle", "T.1 T.2", []int{0}, "T.1", "shut"}, {"T throttle,U throttle", "T.1 U.2,T.2 U.1", []int{0, 0}, "T.1 T.2", "shut shut"}, {"S supply,T throttle,U throttle", "T.1 U.2,T.2 U.1,S.1 U.1", []int{0, 0, 0}, "T.1 T.2", "pressed pressed"},
		{"B button,C button,D button,S supply", "S.1 B.1,B.2 C.1,C.2 D.1", []int{1, 1, 1, 0}, "B.2 C.2 D.2", "pressed pressed pressed"}, {"B button,C button,D button,S supply", "S.1 B.1,B.2 C.1,C.2 D.1", []int{0, 1, 1, 0}, "B.2 C.2 D.2", "vented vented vented"}, {"B button,C button,D button,S supply", "S.1 D.1,D.2 C.1,C.2 B.1", []int{1, 1, 1, 0}, "B.2 C.2 D.2", "pressed pressed pressed"},
	} {
		same(t, named("At", x), texts(t, scene{read(x.parts, x.pipes), x.positions}, x.ports), x.states)
	}
}

func TestPush(t *testing.T) {
	seen := map[int]int{}
	for _, x := range scenes(243, 1500) {
		f := factsOf(x)
		states := f.states()
		for k, p := range x.c.Parts {
			expected, e := 0, api.ErrArg
			if p.Kind == part.Cylinder {
				e = api.OK
				in, out := f.stateOf(states, k, "2") == 2, f.stateOf(states, k, "4") == 2
				switch {
				case out && !in:
					expected = 1
				case in && !out:
					expected = -1
				}
				seen[expected]++
			}
			push, f := pressure.Push(x.c, x.positions, p.Name)
			expect(t, named("Push", x, p), push, f, expected, e)
		}
		for _, name := range []string{"", "Z", "A.2", " A"} {
			push, e := pressure.Push(x.c, x.positions, name)
			expect(t, named("Push", x, name), push, e, 0, api.ErrNone)
		}
	}
	same(t, named("enough of", seen), min(seen[0], seen[1], seen[-1]) > 100, true)
	for _, x := range []struct {
		pipes    string
		expected int
	}{{"", 0}, {"A.4 S.1", 1}, {"A.2 S.1", -1}, {"A.2 S.1,A.4 S.1", 0}, {"A.2 A.4,A.2 S.1", 0}} {
		push, e := pressure.Push(read("A cylinder,S supply", x.pipes), []int{0, 0}, "A")
		expect(t, named("Push", x), push, e, x.expected, api.OK)
	}
}

func TestFlow(t *testing.T) {
	seen := [2]int{}
	for _, x := range scenes(244, 1500) {
		f := factsOf(x)
		states, pressed := f.states(), map[int]bool{}
		for k, state := range states {
			pressed[k] = state == 2
		}
		var expected []int
		for k, p := range x.c.Parts {
			passes, _ := part.Passes(p.Kind, x.positions[k])
			flows := false
			for _, y := range passes {
				in, all := f.from(k, y, pressed)
				flows = flows || f.stateOf(states, k, y.To) == 2 && (in == all || in > 0 && !y.All)
			}
			if flows {
				expected = append(expected, k)
				seen[1]++
			} else {
				seen[0]++
			}
		}
		flow, e := pressure.Flow(x.c, x.positions)
		expect(t, named("Flow", x), flow, e, expected, api.OK)
	}
	same(t, named("enough of", seen), min(seen[0], seen[1]) > 1000, true)
	for _, x := range []struct {
		parts, pipes string
		positions    []int
		flow         string
	}{
		{"A cylinder,S supply,V valve52s", "S.1 V.1,A.2 V.2,A.4 V.4", []int{0, 0, 1}, "[2]"}, {"B button,S supply,T throttle", "B.1 S.1,B.2 T.1", []int{0, 0, 0}, "[]"}, {"B button,S supply,T throttle", "B.1 S.1,B.2 T.1", []int{1, 0, 0}, "[0 2]"},
		// Pressure from elsewhere does not flow through a part.
		{"S supply,T throttle", "S.1 T.2", []int{0, 0}, "[]"}, {"S supply,T twin", "S.1 T.1,S.1 T.2", []int{0, 0}, "[]"}, {"S supply,T shuttle", "S.1 T.1,S.1 T.2", []int{0, 0}, "[1]"}, {"S supply,T twin", "S.1 T.1,S.1 T.11,S.1 T.2", []int{0, 0}, "[1]"},
	} {
		flow, e := pressure.Flow(read(x.parts, x.pipes), x.positions)
		expect(t, named("Flow", x), flow, e, x.flow, api.OK)
	}
}
