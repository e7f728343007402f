package circuit_test

import (
	"fmt"
	"maps"
	"math"
	"math/rand"
	"slices"
	"strings"
	"testing"

	"pneumatic/api"
	"pneumatic/circuit"
	"pneumatic/part"
)

func same[T comparable](t *testing.T, what string, got, expected T) {
	t.Helper()
	if got != expected {
		t.Errorf("%s: %v instead of %v", what, got, expected)
	}
}

// expect compares a result and an error with those that are expected. Nil and empty lists are equal.
func expect(t *testing.T, what string, got any, e api.Errno, expected any, f api.Errno) {
	t.Helper()
	same(t, what, fmt.Sprint(got), fmt.Sprint(expected))
	same(t, "error of "+what, e, f)
}

func named(function string, arguments ...any) string {
	return function + " of " + fmt.Sprint(arguments...)
}

// read returns the circuit with parts like "A cylinder" and pipes like "A.2 V.2", in the order in which they are written. A part that does not exist has the index -1.
func read(parts, pipes string) api.Circuit {
	var c api.Circuit
	for _, text := range list(parts) {
		words := strings.Fields(text)
		kind, e := part.Kind(words[1])
		if e != api.OK {
			panic(text)
		}
		p := api.Part{Kind: kind, Name: words[0]}
		if kind == part.Delay {
			p.Delay = 50
		}
		c.Parts = append(c.Parts, p)
	}
	for _, text := range list(pipes) {
		ends := strings.Fields(text)
		c.Pipes = append(c.Pipes, api.Pipe{From: port(c, ends[0]), To: port(c, ends[1])})
	}
	return c
}

// list returns what is written with commas between.
func list(text string) []string {
	if text == "" {
		return nil
	}
	return strings.Split(text, ", ")
}

// port returns the port with a text like "A.2".
func port(c api.Circuit, text string) api.Port {
	name, its, _ := strings.Cut(text, ".")
	return api.Port{Part: slices.IndexFunc(c.Parts, func(p api.Part) bool { return p.Name == name }), Name: its}
}

// example is the circuit of the document.
func example() api.Circuit {
	return read("A cylinder, A0 limit, S supply, V valve52s", "A.2 V.2, A.4 V.4, A0.1 S.1, S.1 V.1")
}

// text returns a list of ports as it is written.
func text(c api.Circuit, ports []api.Port) string {
	var l []string
	for _, p := range ports {
		l = append(l, c.Parts[p.Part].Name+"."+p.Name)
	}
	return strings.Join(l, " ")
}

// odd are numbers that are no indices and no kinds.
var odd = []int{-1, -2, math.MinInt, math.MaxInt, api.None, 1 << 40, 64, 65, 256}

// portNames returns the ports of a kind, none of one that does not exist.
func portNames(kind int) []string {
	l, _ := part.Ports(kind)
	return l
}

// allPorts follows the definition.
func allPorts(c api.Circuit) []api.Port {
	var l []api.Port
	for k, p := range c.Parts {
		for _, name := range portNames(p.Kind) {
			l = append(l, api.Port{Part: k, Name: name})
		}
	}
	return l
}

// isBefore follows the definition of the order of ports.
func isBefore(a, b api.Port) bool {
	if a.Part != b.Part {
		return a.Part < b.Part
	}
	return a.Name < b.Name
}

// isOrdered follows the definition of the order of pipes.
func isOrdered(a, b api.Pipe) bool {
	if a.From != b.From {
		return isBefore(a.From, b.From)
	}
	return isBefore(a.To, b.To)
}

// checked follows the definition of the errors of circuits.
func checked(c api.Circuit) api.Errno {
	if len(c.Parts) > 64 {
		return api.ErrMany
	}
	cylinders := map[string]bool{}
	for k, p := range c.Parts {
		if e := part.Check(p); e != api.OK {
			return e
		}
		if k > 0 && !(c.Parts[k-1].Name < p.Name) {
			return api.ErrOrder
		}
		cylinders[p.Name] = p.Kind == part.Cylinder
	}
	for _, p := range c.Parts {
		last := len(p.Name) - 1
		if p.Kind == part.Limit && !(strings.Contains("01", p.Name[last:]) && cylinders[p.Name[:last]]) {
			return api.ErrNone
		}
	}
	if len(c.Pipes) > 256 {
		return api.ErrMany
	}
	for k, x := range c.Pipes {
		for _, p := range []api.Port{x.From, x.To} {
			if p.Part < 0 || p.Part > len(c.Parts)-1 {
				return api.ErrRange
			}
		}
		for _, p := range []api.Port{x.From, x.To} {
			if !slices.Contains(portNames(c.Parts[p.Part].Kind), p.Name) {
				return api.ErrNone
			}
		}
		if !isBefore(x.From, x.To) || k > 0 && !isOrdered(c.Pipes[k-1], x) {
			return api.ErrOrder
		}
	}
	return api.OK
}

// joined follows the definition: a net grows from its first port until no pipe leads out of it.
func joined(c api.Circuit) [][]api.Port {
	var nets [][]api.Port
	done := map[api.Port]bool{}
	for _, first := range allPorts(c) {
		if done[first] {
			continue
		}
		net := map[api.Port]bool{first: true}
		for grown := true; grown; {
			grown = false
			for _, x := range c.Pipes {
				if net[x.From] != net[x.To] {
					net[x.From], net[x.To], grown = true, true, true
				}
			}
		}
		nets = append(nets, slices.DeleteFunc(allPorts(c), func(p api.Port) bool { return !net[p] }))
		maps.Copy(done, net)
	}
	return nets
}

// small returns all right circuits of up to three parts of four kinds with up to two pipes.
func small() []api.Circuit {
	lists := []api.Circuit{{}}
	for _, name := range []string{"A", "A0", "B"} {
		for _, c := range slices.Clone(lists) {
			for _, kind := range []int{part.Cylinder, part.Limit, part.Supply, part.Shuttle} {
				x := api.Circuit{Parts: append(slices.Clone(c.Parts), api.Part{Kind: kind, Name: name})}
				if checked(x) == api.OK {
					lists = append(lists, x)
				}
			}
		}
	}
	var l []api.Circuit
	for _, c := range lists {
		l = append(l, c)
		ports := allPorts(c)
		var pipes []api.Pipe
		for i, from := range ports {
			for _, to := range ports[i+1:] {
				pipes = append(pipes, api.Pipe{From: from, To: to})
			}
		}
		for i, x := range pipes {
			l = append(l, api.Circuit{Parts: c.Parts, Pipes: []api.Pipe{x}})
			for _, y := range pipes[i+1:] {
				l = append(l, api.Circuit{Parts: c.Parts, Pipes: []api.Pipe{x, y}})
			}
		}
	}
	return l
}

// names are those of random parts, with others that begin with them.
var names = []string{"A", "A0", "A00", "A01", "A1", "A10", "A2", "B", "B0", "B1", "C", "C0", "C1", "S", "S0", "V", "V1", "a", "a0", "a1"}

// random returns a right circuit with parts of all kinds.
func random(r *rand.Rand, parts, pipes int) api.Circuit {
	var c api.Circuit
	for len(c.Parts) < parts {
		p := randomPart(r)
		x := api.Circuit{Parts: append(slices.Clone(c.Parts), p)}
		slices.SortFunc(x.Parts, func(a, b api.Part) int { return strings.Compare(a.Name, b.Name) })
		if checked(x) == api.OK {
			c = x
		}
	}
	ports := allPorts(c)
	for range pipes {
		x := api.Pipe{From: ports[r.Intn(len(ports))], To: ports[r.Intn(len(ports))]}
		if isBefore(x.To, x.From) {
			x.From, x.To = x.To, x.From
		}
		if x.From != x.To && !slices.Contains(c.Pipes, x) {
			c.Pipes = append(c.Pipes, x)
		}
	}
	sortPipes(c.Pipes)
	return c
}

// randomPart returns a right part, often a cylinder or a limit switch.
func randomPart(r *rand.Rand) api.Part {
	p := api.Part{Kind: r.Intn(part.Kinds), Name: names[r.Intn(len(names))]}
	if r.Intn(2) == 0 {
		p.Kind = []int{part.Cylinder, part.Limit}[r.Intn(2)]
	}
	if p.Kind == part.Delay {
		p.Delay = 1 + r.Intn(api.MaxTime)
	}
	return p
}

func sortPipes(pipes []api.Pipe) {
	slices.SortFunc(pipes, func(a, b api.Pipe) int {
		if isOrdered(a, b) {
			return -1
		}
		return 1
	})
}

// someCircuits returns random circuits.
func someCircuits(seed int64) []api.Circuit {
	r := rand.New(rand.NewSource(seed))
	var l []api.Circuit
	for k := range 300 {
		l = append(l, random(r, 1+k%9, k%13))
	}
	return l
}

// large returns a circuit of as many parts and pipes as there may be.
func large() api.Circuit {
	var c api.Circuit
	for k := range 64 {
		c.Parts = append(c.Parts, api.Part{Kind: part.Valve52, Name: fmt.Sprintf("V%02d", k)})
	}
	for k := range 64 {
		for _, x := range []string{"14 2", "14 4", "2 4", "3 5"} {
			ends := strings.Fields(x)
			c.Pipes = append(c.Pipes, api.Pipe{From: api.Port{Part: k, Name: ends[0]}, To: api.Port{Part: k, Name: ends[1]}})
		}
	}
	return c
}

// wrong returns circuits of which each has an error.
func wrong() []api.Circuit {
	many, pipes := large(), large()
	many.Parts = append(many.Parts, api.Part{Kind: part.Supply, Name: "Z"})
	pipes.Pipes = append(pipes.Pipes, api.Pipe{From: api.Port{Part: 63, Name: "3"}, To: api.Port{Part: 63, Name: "4"}})
	backwards := example()
	slices.Reverse(backwards.Pipes)
	return []api.Circuit{many, pipes, backwards, read("A supply, A supply", ""), read("B supply, A supply", ""), read("A cylinder, B0 limit", ""), read("A cylinder", "A.2 A.2"), read("A cylinder", "A.2 A.5"), read("A cylinder", "A.2 B.5"), {Parts: []api.Part{{Kind: -1}}}, {Parts: []api.Part{{}}}, {Parts: []api.Part{{Name: "A", Delay: 1}}}, {Pipes: []api.Pipe{{}}}}
}

// P21.1

func TestCheck(t *testing.T) {
	for _, x := range []struct {
		parts, pipes string
		e            api.Errno
	}{
		{"", "", api.OK},
		{"A cylinder, A0 limit, A1 limit", "A.2 A.4, A0.2 A1.2", api.OK},
		{"A0 cylinder, A00 limit, A01 limit", "", api.OK},
		{"A cylinder, A0 cylinder, A01 limit, A1 limit", "", api.OK},
		{"A cylinder, A2 limit", "", api.ErrNone}, {"A supply, A0 limit", "", api.ErrNone}, {"A limit", "", api.ErrNone}, {"A0 limit", "", api.ErrNone}, {"A cylinder, A00 limit", "", api.ErrNone}, {"A cylinder, a0 limit", "", api.ErrNone}, {"A cylinder, A0 limit, A00 limit", "", api.ErrNone},
		{"A cylinder, A0 button, A1 supply", "", api.OK},
		{"B supply, A supply", "", api.ErrOrder}, {"A supply, A cylinder", "", api.ErrOrder}, {"B supply, A0 limit", "", api.ErrOrder},
		{"B cylinder, B1 limit, B0 limit", "", api.ErrOrder},
		{"A supply, B supply", "A.1 B.1", api.OK}, {"A supply, B supply", "B.1 A.1", api.ErrOrder}, {"A supply, B supply", "A.1 A.1", api.ErrOrder}, {"A supply, B supply", "A.1 B.1, A.1 B.1", api.ErrOrder},
		{"A supply, B supply", "A.1 B.2", api.ErrNone}, {"A supply, B supply", "A.2 B.1", api.ErrNone}, {"A supply, B supply", "A. B.1", api.ErrNone}, {"A supply, B supply", "B.1 A.2", api.ErrNone}, {"A supply", "A.3 B.1", api.ErrRange}, {"A supply", "B.1 A.3", api.ErrRange}, {"A supply", "C.1 B.1", api.ErrRange},
		{"A valve52, B supply", "A.1 A.12, A.12 A.2, A.12 B.1, A.2 B.1", api.OK}, {"A valve52, B supply", "A.2 A.12", api.ErrOrder}, {"A valve52, B supply", "A.12 B.1, A.12 A.2", api.ErrOrder}, {"A valve52, B supply", "A.2 B.1, A.12 B.1", api.ErrOrder},
	} {
		c := read(x.parts, x.pipes)
		same(t, named("Check", x), circuit.Check(c), x.e)
		same(t, named("definition", x), checked(c), x.e)
	}
	for _, c := range []api.Circuit{{Parts: []api.Part{{Kind: part.Delay, Name: "T"}}}, {Parts: []api.Part{{Kind: part.Supply, Name: "T", Delay: 7}}}} {
		same(t, named("Check", c), circuit.Check(c), api.ErrRange)
	}
	same(t, "Check", circuit.Check(api.Circuit{Parts: []api.Part{{Kind: 14, Name: "1"}}}), api.ErrArg)
	same(t, "Check", circuit.Check(api.Circuit{Parts: []api.Part{{Name: "B"}, {Name: "1"}}}), api.ErrForm)
	same(t, "Check", circuit.Check(large()), api.OK)
}

func TestCheckFindsTooMany(t *testing.T) {
	c := large()
	c.Parts = append(c.Parts, api.Part{Kind: -1})
	c.Pipes = append(c.Pipes, api.Pipe{})
	same(t, "Check", circuit.Check(c), api.ErrMany)
	c.Parts = c.Parts[:64]
	same(t, "Check", circuit.Check(c), api.ErrMany)
	c.Parts[63].Kind = part.Limit
	same(t, "Check", circuit.Check(c), api.ErrNone)
	c.Parts[63].Kind = part.Kinds
	same(t, "Check", circuit.Check(c), api.ErrArg)
}

// damaged returns a circuit that is often not right any more.
func damaged(r *rand.Rand, c api.Circuit) api.Circuit {
	c = api.Circuit{Parts: slices.Clone(c.Parts), Pipes: slices.Clone(c.Pipes)}
	for range 1 + r.Intn(2) {
		p := &c.Parts[r.Intn(len(c.Parts))]
		switch r.Intn(9) {
		case 0:
			p.Kind = append(odd, r.Intn(part.Kinds), r.Intn(part.Kinds))[r.Intn(len(odd)+2)]
		case 1:
			p.Name = append([]string{"", "0", "A b", strings.Repeat("n", 25)}, names...)[r.Intn(len(names)+4)]
		case 2:
			p.Delay = r.Intn(3) - 1
		case 3:
			p.Kind = part.Limit
		case 4:
			c.Parts[0] = *p
		}
		if len(c.Pipes) == 0 {
			continue
		}
		x := &c.Pipes[r.Intn(len(c.Pipes))]
		switch r.Intn(9) {
		case 0:
			x.From.Part = append(odd, len(c.Parts), 0)[r.Intn(len(odd)+2)]
		case 1:
			x.To.Part = append(odd, len(c.Parts), 0)[r.Intn(len(odd)+2)]
		case 2:
			x.From.Name = []string{"1", "2", "4", "12", "", "x"}[r.Intn(6)]
		case 3:
			x.To.Name = []string{"1", "2", "4", "14", "", "02"}[r.Intn(6)]
		case 4:
			x.From, x.To = x.To, x.From
		case 5:
			c.Pipes[0] = *x
		}
	}
	return c
}

func TestCheckOfDamagedCircuits(t *testing.T) {
	r, seen := rand.New(rand.NewSource(211)), map[api.Errno]int{}
	for range 100 {
		for _, c := range someCircuits(r.Int63())[:50] {
			x := damaged(r, c)
			e := checked(x)
			same(t, named("Check", x), circuit.Check(x), e)
			seen[e]++
		}
	}
	for _, e := range []api.Errno{api.OK, api.ErrArg, api.ErrForm, api.ErrLong, api.ErrRange, api.ErrOrder, api.ErrNone} {
		same(t, named("enough of", e, seen), seen[e] > 20, true)
	}
}

func TestErrorsOfCircuits(t *testing.T) {
	for _, c := range wrong() {
		f := checked(c)
		same(t, "Check", f == api.OK, false)
		same(t, "Check", circuit.Check(c), f)
		for _, name := range []string{"A", "V00", "", "x"} {
			at, e := circuit.Find(c, name)
			expect(t, named("Find", name), at, e, 0, f)
			less, e := circuit.Remove(c, name)
			expect(t, named("Remove", name), less, e, api.Circuit{}, f)
			in, out, e := circuit.Limits(c, name)
			expect(t, named("Limits", name), []int{in, out}, e, []int{0, 0}, f)
			more, e := circuit.Add(c, api.Part{Kind: -1, Name: name})
			expect(t, named("Add", name), more, e, api.Circuit{}, f)
		}
		ports, e := circuit.Ports(c)
		expect(t, named("Ports", c), ports, e, []api.Port{}, f)
		nets, e := circuit.Nets(c)
		expect(t, named("Nets", c), nets, e, []api.Port{}, f)
		for _, p := range []api.Port{{}, {Part: 0, Name: "1"}, {Part: -1}, {Part: 63, Name: "2"}} {
			net, e := circuit.Net(c, p)
			expect(t, named("Net", p), net, e, 0, f)
			more, e := circuit.Join(c, p, api.Port{Part: 64})
			expect(t, named("Join", p), more, e, api.Circuit{}, f)
		}
	}
}

func TestFind(t *testing.T) {
	for _, c := range append(append(someCircuits(212), large(), example()), small()[:500]...) {
		for _, name := range append([]string{"", "x", "0", "V63", "V64", "Z", "A.2"}, names...) {
			at, e := circuit.Find(c, name)
			expected := slices.IndexFunc(c.Parts, func(p api.Part) bool { return p.Name == name })
			if expected < 0 {
				expect(t, named("Find", c, name), at, e, 0, api.ErrNone)
				continue
			}
			expect(t, named("Find", c, name), at, e, expected, api.OK)
		}
	}
	at, e := circuit.Find(example(), "S")
	expect(t, "Find", at, e, 2, api.OK)
}

func TestPortsAndNets(t *testing.T) {
	for _, c := range append(append(someCircuits(213), large(), example()), small()...) {
		ports, e := circuit.Ports(c)
		expect(t, named("Ports", c), ports, e, allPorts(c), api.OK)
		nets, e := circuit.Nets(c)
		expect(t, named("Nets", c), nets, e, joined(c), api.OK)
	}
}

func TestNet(t *testing.T) {
	for _, c := range append(someCircuits(214), large(), example(), api.Circuit{}) {
		for k, net := range joined(c) {
			for _, p := range net {
				got, e := circuit.Net(c, p)
				expect(t, named("Net", p), got, e, k, api.OK)
			}
		}
		for _, k := range append([]int{len(c.Parts)}, odd[:6]...) {
			got, e := circuit.Net(c, api.Port{Part: k, Name: "1"})
			expect(t, named("Net", c, k), got, e, 0, api.ErrRange)
		}
		for k, p := range c.Parts {
			for _, name := range []string{"", "1", "6", "12", "01", "A", " 2", "2 "} {
				if !slices.Contains(portNames(p.Kind), name) {
					got, e := circuit.Net(c, api.Port{Part: k, Name: name})
					expect(t, named("Net", c, k, name), got, e, 0, api.ErrNone)
				}
			}
		}
	}
}

func TestExampleOfTheDocument(t *testing.T) {
	c := example()
	ports, e := circuit.Ports(c)
	expect(t, "Ports", text(c, ports), e, "A.2 A.4 A0.1 A0.2 A0.3 S.1 V.1 V.14 V.2 V.3 V.4 V.5", api.OK)
	nets, e := circuit.Nets(c)
	var l []string
	for _, net := range nets {
		l = append(l, text(c, net))
	}
	expect(t, "Nets", strings.Join(l, ", "), e, "A.2 V.2, A.4 V.4, A0.1 S.1 V.1, A0.2, A0.3, V.14, V.3, V.5", api.OK)
	net, e := circuit.Net(c, port(c, "V.1"))
	expect(t, "Net", net, e, 2, api.OK)
}
