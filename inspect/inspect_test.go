package inspect_test

import (
	"fmt"
	"math"
	"math/rand"
	"slices"
	"strings"
	"testing"

	"pneumatic/api"
	"pneumatic/circuit"
	"pneumatic/inspect"
	"pneumatic/part"
)

func same[T comparable](t *testing.T, what string, got, expected T) {
	t.Helper()
	if got != expected {
		t.Errorf("%s: %v instead of %v", what, got, expected)
	}
}

// expect compares a result and an error with those that are expected. Nil and empty lists are equal.
func expect(t *testing.T, what string, got any, e api.Errno, expected any, f api.Errno) {
	t.Helper()
	same(t, what, fmt.Sprint(got), fmt.Sprint(expected))
	same(t, "error of "+what, e, f)
}

func named(function string, arguments ...any) string {
	return function + " of " + fmt.Sprint(arguments...)
}

// read returns the circuit with parts like "A cylinder" and pipes like "A.2 V.2".
func read(parts, pipes string) api.Circuit {
	var c api.Circuit
	for _, text := range list(parts) {
		words := strings.Fields(text)
		kind, e := part.Kind(words[1])
		if e != api.OK {
			panic(text)
		}
		c.Parts = append(c.Parts, partOf(kind, words[0]))
	}
	for _, text := range list(pipes) {
		c = with(c, text)
	}
	if e := circuit.Check(c); e != api.OK {
		panic(parts + "; " + pipes)
	}
	return c
}

// with returns a circuit with a further pipe like "A.2 V.2".
func with(c api.Circuit, pipe string) api.Circuit {
	ends := strings.Fields(pipe)
	joined, e := circuit.Join(c, port(c, ends[0]), port(c, ends[1]))
	if e != api.OK {
		panic(pipe)
	}
	return joined
}

func partOf(kind int, name string) api.Part {
	p := api.Part{Kind: kind, Name: name}
	if kind == part.Delay {
		p.Delay = 50
	}
	return p
}

// list returns what is written with commas between.
func list(text string) []string {
	if text == "" {
		return nil
	}
	return strings.Split(text, ", ")
}

// port returns the port with a text like "A.2".
func port(c api.Circuit, text string) api.Port {
	name, its, _ := strings.Cut(text, ".")
	k, _ := circuit.Find(c, name)
	return api.Port{Part: k, Name: its}
}

// example is the circuit of the document.
func example() api.Circuit {
	return read("A cylinder, A0 limit, S supply, V valve52s", "A.2 V.2, A.4 V.4, A0.1 S.1, S.1 V.1")
}

// odd are numbers that are no indices and no kinds.
var odd = []int{-1, -2, math.MinInt, math.MaxInt, api.None, 1 << 40, 64, 65}

// roles has the ports in, out, exhaust, pilots and chambers of the kinds, as in the table of layer 20.
var roles = [part.Kinds]string{
	part.Supply: "|1|||", part.Cylinder: "||||2 4", part.Valve52: "1|2 4|3 5|12 14|", part.Valve52S: "1|2 4|3 5|14|", part.Valve32: "1|2|3|12|", part.Valve32O: "1|2|3|10|", part.Limit: "1|2|3||", part.Button: "1|2|3||", part.Shuttle: "1 11|2|||", part.Twin: "1 11|2|||", part.Quick: "1|2|3||", part.Throttle: "1|2|||", part.Delay: "1|2|3|12|", part.Counter: "1|2|3|12|",
}

const (
	in = iota
	out
	exhaust
	pilot
	chamber
)

// has reports whether a port has one of some roles.
func has(c api.Circuit, p api.Port, l ...int) bool {
	columns := strings.Split(roles[c.Parts[p.Part].Kind], "|")
	return slices.ContainsFunc(l, func(role int) bool { return slices.Contains(strings.Fields(columns[role]), p.Name) })
}

func gives(c api.Circuit, p api.Port) bool { return has(c, p, out) }

func takes(c api.Circuit, p api.Port) bool { return has(c, p, in, pilot, chamber) }

// facts has what the definitions need of a circuit.
type facts struct {
	c     api.Circuit
	ports []api.Port
	nets  map[api.Port][]api.Port
}

func factsOf(c api.Circuit) facts {
	f := facts{c: c, nets: map[api.Port][]api.Port{}}
	f.ports, _ = circuit.Ports(c)
	nets, _ := circuit.Nets(c)
	for _, net := range nets {
		for _, p := range net {
			f.nets[p] = net
		}
	}
	return f
}

// around returns the ports of the net of a port that pass a test.
func (f facts) around(p api.Port, test func(c api.Circuit, p api.Port) bool) []api.Port {
	var l []api.Port
	for _, x := range f.nets[p] {
		if test(f.c, x) {
			l = append(l, x)
		}
	}
	return l
}

// holds follows the table of findings.
func (f facts) holds(kind int, p api.Port) bool {
	net, givers := f.nets[p], f.around(p, gives)
	switch kind {
	case inspect.OpenPilot:
		return has(f.c, p, pilot) && len(net) == 1
	case inspect.OpenChamber:
		return has(f.c, p, chamber) && len(net) == 1
	case inspect.Unfed:
		return has(f.c, p, in) && len(givers) == 0
	case inspect.Joined:
		return gives(f.c, p) && slices.Index(givers, p) > 0
	case inspect.DeadEnd:
		return gives(f.c, p) && len(f.around(p, takes)) == 0
	case inspect.Plugged:
		return has(f.c, p, exhaust) && len(net) > 1
	case inspect.Opposed:
		return f.c.Parts[p.Part].Kind == part.Valve52 && p.Name == "14" && slices.Contains(net, api.Port{Part: p.Part, Name: "12"})
	}
	return false
}

// findings follows the definition.
func (f facts) findings() []inspect.Finding {
	var l []inspect.Finding
	if len(f.c.Parts) > 0 && !slices.ContainsFunc(f.c.Parts, func(p api.Part) bool { return p.Kind == part.Supply }) {
		l = append(l, inspect.Finding{})
	}
	for kind := 1; kind < inspect.Kinds; kind++ {
		for _, p := range f.ports {
			if f.holds(kind, p) {
				l = append(l, inspect.Finding{Kind: kind, At: p})
			}
		}
	}
	return l
}

// acts follows the definition: whether a part acts on a part, for all pairs.
func (f facts) acts() [64][64]bool {
	var acts [64][64]bool
	for _, p := range f.ports {
		for _, x := range f.nets[p] {
			if gives(f.c, p) && takes(f.c, x) {
				acts[p.Part][x.Part] = true
			}
		}
	}
	for i, cylinder := range f.c.Parts {
		for k, limit := range f.c.Parts {
			if cylinder.Kind == part.Cylinder && limit.Kind == part.Limit && (limit.Name == cylinder.Name+"0" || limit.Name == cylinder.Name+"1") {
				acts[i][k] = true
			}
		}
	}
	n := len(f.c.Parts)
	for between := range n {
		for i := range n {
			for k := range n {
				acts[i][k] = acts[i][k] || acts[i][between] && acts[between][k]
			}
		}
	}
	return acts
}

// driver follows the definition.
func (f facts) driver(cylinder int) (int, bool, api.Errno) {
	chamber2, chamber4 := f.nets[api.Port{Part: cylinder, Name: "2"}], f.nets[api.Port{Part: cylinder, Name: "4"}]
	for k, p := range f.c.Parts {
		if p.Kind != part.Valve52 && p.Kind != part.Valve52S || chamber2[0] == chamber4[0] {
			continue
		}
		a, b := api.Port{Part: k, Name: "2"}, api.Port{Part: k, Name: "4"}
		straight := slices.Contains(chamber2, a) && slices.Contains(chamber4, b)
		crossed := slices.Contains(chamber2, b) && slices.Contains(chamber4, a)
		others := slices.ContainsFunc(slices.Concat(chamber2, chamber4), func(x api.Port) bool { return gives(f.c, x) && x != a && x != b })
		if (straight || crossed) && !others {
			return k, straight, api.OK
		}
	}
	return 0, false, api.ErrState
}

// small returns all circuits of one or two parts of any kinds with at most one pipe, and some with a second one.
func small(r *rand.Rand) []api.Circuit {
	l := []api.Circuit{{}}
	for first := range part.Kinds {
		for second := range part.Kinds + 1 {
			c := api.Circuit{Parts: []api.Part{partOf(first, "A")}}
			if second < part.Kinds {
				c.Parts = append(c.Parts, partOf(second, "A1"))
			}
			if circuit.Check(c) != api.OK {
				continue
			}
			l = append(l, c)
			ports, _ := circuit.Ports(c)
			for i, a := range ports {
				for _, b := range ports[i+1:] {
					x, _ := circuit.Join(c, a, b)
					l = append(l, x)
					y, e := circuit.Join(x, ports[r.Intn(len(ports))], ports[r.Intn(len(ports))])
					if e == api.OK {
						l = append(l, y)
					}
				}
			}
		}
	}
	return l
}

// random returns a circuit with parts of all kinds. Often, valves drive cylinders in it.
func random(r *rand.Rand, parts, pipes int) api.Circuit {
	names := []string{"A", "A0", "A00", "A1", "B", "B0", "B1", "C", "C1", "S", "T", "U", "V", "W", "X", "a", "a0"}
	var c api.Circuit
	for len(c.Parts) < parts {
		kind := r.Intn(part.Kinds)
		if r.Intn(2) == 0 {
			kind = []int{part.Cylinder, part.Limit, part.Valve52, part.Valve52S}[r.Intn(4)]
		}
		if added, e := circuit.Add(c, partOf(kind, names[r.Intn(len(names))])); e == api.OK {
			c = added
		}
	}
	join := func(a, b api.Port) {
		if joined, e := circuit.Join(c, a, b); e == api.OK {
			c = joined
		}
	}
	for k, p := range c.Parts {
		if p.Kind != part.Cylinder || r.Intn(3) == 0 {
			continue
		}
		outputs := []string{"2", "4"}
		if r.Intn(2) == 0 {
			slices.Reverse(outputs)
		}
		valve := r.Intn(len(c.Parts))
		join(api.Port{Part: k, Name: "2"}, api.Port{Part: valve, Name: outputs[0]})
		join(api.Port{Part: k, Name: "4"}, api.Port{Part: valve, Name: outputs[1]})
	}
	ports, _ := circuit.Ports(c)
	for range pipes {
		join(ports[r.Intn(len(ports))], ports[r.Intn(len(ports))])
	}
	return c
}

// circuits returns small and random circuits.
func circuits(seed int64) []api.Circuit {
	r := rand.New(rand.NewSource(seed))
	l := append(small(r), example(), with(example(), "A0.2 V.14"), large())
	for k := range 1500 {
		l = append(l, random(r, 1+k%10, r.Intn(14)))
	}
	return l
}

// someOf returns each one of some circuits that has an index divisible by n.
func someOf(circuits []api.Circuit, n int) []api.Circuit {
	var l []api.Circuit
	for k := 0; k < len(circuits); k += n {
		l = append(l, circuits[k])
	}
	return l
}

// large returns a circuit of 64 valves whose ports make 4 nets.
func large() api.Circuit {
	var c api.Circuit
	for k := range 64 {
		c.Parts = append(c.Parts, partOf(part.Valve52, fmt.Sprintf("V%02d", k)))
	}
	for k := range 63 {
		for _, name := range []string{"1", "12", "2", "4"} {
			c.Pipes = append(c.Pipes, api.Pipe{From: api.Port{Part: k, Name: name}, To: api.Port{Part: k + 1, Name: name}})
		}
	}
	return c
}

// wrong returns circuits of which each has an error.
func wrong() []api.Circuit {
	many, backwards := large(), example()
	many.Parts = append(many.Parts, partOf(part.Supply, "Z"))
	slices.Reverse(backwards.Pipes)
	return []api.Circuit{many, backwards, {Parts: []api.Part{{}}}, {Parts: []api.Part{{Kind: -1, Name: "A"}}}, {Parts: []api.Part{partOf(part.Limit, "A0")}}, {Parts: []api.Part{partOf(part.Supply, "B"), partOf(part.Supply, "A")}}, {Pipes: []api.Pipe{{}}}, {Parts: example().Parts, Pipes: []api.Pipe{{To: api.Port{Name: "9"}}}}, {Parts: example().Parts, Pipes: make([]api.Pipe, 257)}}
}

// P22.1

func TestErrorsOfCircuits(t *testing.T) {
	for _, c := range wrong() {
		f := circuit.Check(c)
		same(t, "Check", f == api.OK, false)
		findings, e := inspect.Findings(c)
		expect(t, "Findings", findings, e, []int{}, f)
		idle, e := inspect.Idle(c)
		expect(t, "Idle", idle, e, []int{}, f)
		for _, kind := range append([]int{0, 1, 8}, odd...) {
			for _, p := range []api.Port{{}, {Part: 0, Name: "2"}, {Part: -1, Name: "2"}} {
				text, e := inspect.Text(c, inspect.Finding{Kind: kind, At: p})
				expect(t, "Text", text, e, "", f)
				givers, e := inspect.Givers(c, p)
				expect(t, "Givers", givers, e, []int{}, f)
				takers, e := inspect.Takers(c, p)
				expect(t, "Takers", takers, e, []int{}, f)
			}
		}
		for _, name := range []string{"", "A", "V00", "x"} {
			k, straight, e := inspect.Driver(c, name)
			expect(t, "Driver", []any{k, straight}, e, []any{0, false}, f)
			behind, e := inspect.Behind(c, name)
			expect(t, "Behind", behind, e, []int{}, f)
		}
	}
}

func TestFindings(t *testing.T) {
	var seen [inspect.Kinds]int
	for _, c := range circuits(221) {
		expected := factsOf(c).findings()
		got, e := inspect.Findings(c)
		expect(t, named("Findings", c), got, e, expected, api.OK)
		for _, x := range expected {
			seen[x.Kind]++
		}
	}
	for kind, n := range seen {
		same(t, named("enough of", kind, seen), n > 100, true)
	}
}

// texts returns the texts of all findings of a circuit.
func texts(c api.Circuit) string {
	findings, _ := inspect.Findings(c)
	var l []string
	for _, x := range findings {
		text, _ := inspect.Text(c, x)
		l = append(l, text)
	}
	return strings.Join(l, ", ")
}

func TestFindingsOfCircuitsThatAreWritten(t *testing.T) {
	for _, x := range []struct{ parts, pipes, findings string }{
		{"", "", ""},
		{"S supply", "", "dead end: S.1"},
		{"A cylinder", "", "no supply, open chamber: A.2, open chamber: A.4"},
		{"A cylinder, S supply", "A.2 A.4", "dead end: S.1"},
		{"A cylinder, S supply", "A.2 S.1", "open chamber: A.4"},
		{"S supply, T supply", "S.1 T.1", "joined outputs: T.1, dead end: S.1, dead end: T.1"},
		{"Q shuttle, S supply, T supply", "Q.1 S.1, Q.11 T.1, S.1 T.1", "joined outputs: T.1, dead end: Q.2"},
		{"Q shuttle, S supply", "Q.1 S.1", "unfed: Q.11, dead end: Q.2"},
		{"Q shuttle, S supply", "Q.1 Q.2, Q.11 S.1", ""},
		{"Q shuttle, S supply", "Q.1 Q.2, Q.1 Q.11, Q.11 S.1", "joined outputs: S.1"},
		{"S supply, V valve52", "S.1 V.1", "open pilot: V.12, open pilot: V.14, dead end: V.2, dead end: V.4"},
		{"S supply, V valve52", "S.1 V.1, V.12 V.14", "dead end: V.2, dead end: V.4, opposed pilots: V.14"},
		{"S supply, V valve52", "S.1 V.1, S.1 V.12, S.1 V.14, V.2 V.3, V.4 V.5", "dead end: V.2, dead end: V.4, plugged exhaust: V.3, plugged exhaust: V.5, opposed pilots: V.14"},
		{"S supply, V valve52, W valve52", "S.1 V.1, S.1 W.1, V.12 W.14, V.14 W.12, V.2 V.12, W.2 W.12", "dead end: V.4, dead end: W.4"},
		{"B button, S supply", "B.3 S.1", "unfed: B.1, dead end: B.2, dead end: S.1, plugged exhaust: B.3"},
		{"A cylinder, A0 limit, S supply, V valve52s", "A.2 V.2, A.4 V.4, A0.1 S.1, S.1 V.1", "open pilot: V.14, dead end: A0.2"},
		{"A cylinder, A0 limit, S supply, V valve52s", "A.2 V.2, A.4 V.4, A0.1 S.1, A0.2 V.14, S.1 V.1", ""},
	} {
		same(t, named("Findings", x), texts(read(x.parts, x.pipes)), x.findings)
	}
}

func TestText(t *testing.T) {
	words := []string{"no supply", "open pilot", "open chamber", "unfed", "joined outputs", "dead end", "plugged exhaust", "opposed pilots"}
	same(t, "Kinds", inspect.Kinds, len(words))
	for _, c := range append(someOf(circuits(222), 40), example(), api.Circuit{}) {
		ports, _ := circuit.Ports(c)
		for _, p := range append(ports, api.Port{}, api.Port{Name: "1"}, api.Port{Name: "6"}, api.Port{Part: 1}, api.Port{Part: -1}, api.Port{Part: len(c.Parts)}, api.Port{Part: len(c.Parts), Name: "1"}, api.Port{Part: math.MinInt, Name: "2"}) {
			for kind, word := range words {
				text, f := "", api.OK
				switch {
				case kind == 0 && p != api.Port{}:
					f = api.ErrForm
				case kind == 0:
					text = word
				case p.Part < 0 || p.Part >= len(c.Parts):
					f = api.ErrRange
				case !slices.Contains(ports, p):
					f = api.ErrNone
				default:
					text = word + ": " + c.Parts[p.Part].Name + "." + p.Name
				}
				got, e := inspect.Text(c, inspect.Finding{Kind: kind, At: p})
				if got != text || e != f {
					t.Errorf("Text of %v, %d, %v: %q, %d instead of %q, %d", c, kind, p, got, e, text, f)
				}
			}
		}
		for _, kind := range append([]int{8, 9}, odd...) {
			for _, p := range []api.Port{{}, {Name: "2"}, {Part: -1}} {
				got, e := inspect.Text(c, inspect.Finding{Kind: kind, At: p})
				expect(t, named("Text", kind, p), got, e, "", api.ErrArg)
			}
		}
	}
	text, e := inspect.Text(example(), inspect.Finding{Kind: inspect.Opposed, At: api.Port{Name: "2"}})
	expect(t, "Text", text, e, "opposed pilots: A.2", api.OK)
}

func TestGiversAndTakers(t *testing.T) {
	for _, c := range append(someOf(circuits(223)[1:], 12), example()) {
		f := factsOf(c)
		what := named("Givers and Takers", c)
		for _, p := range f.ports[:min(len(f.ports), 40)] {
			givers, e := inspect.Givers(c, p)
			expect(t, what, givers, e, f.around(p, gives), api.OK)
			takers, e := inspect.Takers(c, p)
			expect(t, what, takers, e, f.around(p, takes), api.OK)
		}
		for _, x := range []struct {
			p api.Port
			e api.Errno
		}{{api.Port{Part: -1, Name: "1"}, api.ErrRange}, {api.Port{Part: len(c.Parts), Name: "1"}, api.ErrRange}, {api.Port{Part: math.MinInt}, api.ErrRange}, {api.Port{Part: math.MaxInt}, api.ErrRange}, {api.Port{Name: "6"}, api.ErrNone}, {api.Port{Part: len(c.Parts) - 1, Name: ""}, api.ErrNone}} {
			givers, e := inspect.Givers(c, x.p)
			expect(t, what, givers, e, []int{}, x.e)
			takers, e := inspect.Takers(c, x.p)
			expect(t, what, takers, e, []int{}, x.e)
		}
	}
	c := example()
	givers, e := inspect.Givers(c, port(c, "V.1"))
	expect(t, "Givers", givers, e, []api.Port{port(c, "S.1")}, api.OK)
	takers, e := inspect.Takers(c, port(c, "V.1"))
	expect(t, "Takers", takers, e, []api.Port{port(c, "A0.1"), port(c, "V.1")}, api.OK)
	givers, e = inspect.Givers(c, port(c, "A0.3"))
	expect(t, "Givers", givers, e, []api.Port{}, api.OK)
	takers, e = inspect.Takers(c, port(c, "A0.3"))
	expect(t, "Takers", takers, e, []api.Port{}, api.OK)
}
