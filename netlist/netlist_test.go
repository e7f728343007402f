package netlist_test

import (
	"fmt"
	"math"
	"math/rand"
	"slices"
	"strings"
	"testing"

	"pneumatic/api"
	"pneumatic/circuit"
	"pneumatic/netlist"
	"pneumatic/part"
)

func same[T comparable](t *testing.T, what string, got, expected T) {
	t.Helper()
	if got != expected {
		t.Errorf("%s: %v instead of %v", what, got, expected)
	}
}

// expect compares a result and an error with those that are expected. Nil and empty lists are equal.
func expect(t *testing.T, what string, got any, e api.Errno, expected any, f api.Errno) {
	t.Helper()
	same(t, what, fmt.Sprint(got), fmt.Sprint(expected))
	same(t, "error of "+what, e, f)
}

func named(function string, arguments ...any) string {
	return function + " of " + fmt.Sprint(arguments...)
}

// read returns the circuit with parts like "A cylinder" and pipes like "A.2 V.2", without the functions that are tested.
func read(parts, pipes string) api.Circuit {
	var c api.Circuit
	for _, text := range list(parts) {
		words := strings.Fields(text)
		kind, e := part.Kind(words[1])
		if e != api.OK {
			panic(text)
		}
		c.Parts = append(c.Parts, partOf(kind, words[0]))
	}
	for _, text := range list(pipes) {
		ends := strings.Fields(text)
		joined, e := circuit.Join(c, port(c, ends[0]), port(c, ends[1]))
		if e != api.OK {
			panic(text)
		}
		c = joined
	}
	return c
}

func partOf(kind int, name string) api.Part {
	p := api.Part{Kind: kind, Name: name}
	if kind == part.Delay {
		p.Delay = 50
	}
	return p
}

// list returns what is written with commas between.
func list(text string) []string {
	if text == "" {
		return nil
	}
	return strings.Split(text, ", ")
}

// port returns the port with a text like "A.2".
func port(c api.Circuit, text string) api.Port {
	name, its, _ := strings.Cut(text, ".")
	return api.Port{Part: slices.IndexFunc(c.Parts, func(p api.Part) bool { return p.Name == name }), Name: its}
}

// example is the circuit of the document.
func example() api.Circuit {
	return read("A cylinder, A0 limit, S supply, V valve52s", "A.2 V.2, A.4 V.4, A0.1 S.1, S.1 V.1")
}

// exampleText is its text.
const exampleText = "part A cylinder\npart A0 limit\npart S supply\npart V valve52s\npipe A.2 V.2\npipe A.4 V.4\npipe A0.1 S.1\npipe S.1 V.1\n"

// odd are numbers that are no indices.
var odd = []int{-1, -2, math.MinInt, math.MaxInt, api.None, 1 << 40, 64, 65}

// names are those of random parts, with others that begin with them.
var names = []string{"A", "A0", "A00", "A1", "A10", "B", "B0", "B1", "C", "C1", "S", "T", "V", "W", "a", "a0", "a_1"}

// random returns a circuit with parts of all kinds.
func random(r *rand.Rand, parts, pipes int) api.Circuit {
	var c api.Circuit
	for len(c.Parts) < parts {
		p := api.Part{Kind: r.Intn(part.Kinds), Name: names[r.Intn(len(names))]}
		if r.Intn(2) == 0 {
			p.Kind = []int{part.Cylinder, part.Limit, part.Delay}[r.Intn(3)]
		}
		if p.Kind == part.Delay {
			p.Delay = []int{1, 50, 999, api.MaxTime}[r.Intn(4)]
		}
		if added, e := circuit.Add(c, p); e == api.OK {
			c = added
		}
	}
	ports, _ := circuit.Ports(c)
	for range pipes {
		if joined, e := circuit.Join(c, ports[r.Intn(len(ports))], ports[r.Intn(len(ports))]); e == api.OK {
			c = joined
		}
	}
	return c
}

// someCircuits returns written and random circuits.
func someCircuits(seed int64, count int) []api.Circuit {
	r := rand.New(rand.NewSource(seed))
	l := []api.Circuit{{}, example(), read("A cylinder, A0 limit, A1 limit, B button", "A.2 A.4, A0.1 A1.1")}
	for k := range count {
		l = append(l, random(r, 1+k%10, r.Intn(14)))
	}
	return l
}

// large returns a circuit of 64 valves with 256 pipes, whose names all have a length.
func large(length int) api.Circuit {
	var c api.Circuit
	for k := range 64 {
		c.Parts = append(c.Parts, partOf(part.Valve52, "V"+strings.Repeat("_", length-3)+fmt.Sprintf("%02d", k)))
	}
	for k := range 64 {
		for _, x := range []string{"12 14", "12 2", "14 2", "3 5"} {
			ends := strings.Fields(x)
			c.Pipes = append(c.Pipes, api.Pipe{From: api.Port{Part: k, Name: ends[0]}, To: api.Port{Part: k, Name: ends[1]}})
		}
	}
	return c
}

// wrong returns circuits of which each has an error.
func wrong() []api.Circuit {
	many, backwards := large(3), example()
	many.Parts = append(many.Parts, partOf(part.Supply, "Z"))
	slices.Reverse(backwards.Pipes)
	return []api.Circuit{many, backwards, {Parts: []api.Part{{}}}, {Parts: []api.Part{{Kind: -1, Name: "A"}}}, {Parts: []api.Part{partOf(part.Limit, "A0")}}, {Parts: []api.Part{partOf(part.Supply, "B"), partOf(part.Supply, "A")}}, {Parts: []api.Part{{Name: "A", Delay: 1}}}, {Pipes: []api.Pipe{{}}}, {Parts: example().Parts, Pipes: []api.Pipe{{To: api.Port{Name: "9"}}}}, {Parts: example().Parts, Pipes: make([]api.Pipe, 257)}}
}

// textOf follows the definition of the text of a circuit.
func textOf(c api.Circuit) string {
	text := ""
	for _, p := range c.Parts {
		word, _ := part.Word(p.Kind)
		text += fmt.Sprintf("part %s %s", p.Name, word)
		if p.Kind == part.Delay {
			text += fmt.Sprintf(" %d", p.Delay)
		}
		text += "\n"
	}
	for _, x := range c.Pipes {
		text += fmt.Sprintf("pipe %s.%s %s.%s\n", c.Parts[x.From.Part].Name, x.From.Name, c.Parts[x.To.Part].Name, x.To.Name)
	}
	return text
}

// P23.1

func TestErrorsOfCircuits(t *testing.T) {
	same(t, "MaxNetlist", netlist.MaxNetlist, 16384)
	for _, c := range wrong() {
		f := circuit.Check(c)
		same(t, "Check", f == api.OK, false)
		for _, p := range []api.Port{{}, {Name: "2"}, {Part: -1}, {Part: 64}} {
			text, e := netlist.Port(c, p)
			expect(t, "Port", text, e, "", f)
		}
		for _, text := range []string{"", "A", "A.2", "X.1"} {
			p, e := netlist.ReadPort(c, text)
			expect(t, "ReadPort", p, e, api.Port{}, f)
			for _, name := range []string{"A", "", "1"} {
				renamed, e := netlist.Rename(c, text, name)
				expect(t, "Rename", renamed, e, api.Circuit{}, f)
			}
		}
		text, e := netlist.Format(c)
		expect(t, "Format", text, e, "", f)
		count, e := netlist.Count(c)
		expect(t, "Count", count, e, []int{}, f)
		union, e := netlist.Union(c, example())
		expect(t, "Union", union, e, api.Circuit{}, f)
		union, e = netlist.Union(example(), c)
		expect(t, "Union", union, e, api.Circuit{}, f)
		for _, other := range wrong() {
			union, e = netlist.Union(c, other)
			expect(t, "Union", union, e, api.Circuit{}, f)
		}
	}
}

func TestPort(t *testing.T) {
	for _, c := range append(someCircuits(231, 100), large(4)) {
		for k, p := range c.Parts {
			ports, _ := part.Ports(p.Kind)
			for _, name := range ports {
				text, e := netlist.Port(c, api.Port{Part: k, Name: name})
				expect(t, named("Port", c, k, name), text, e, p.Name+"."+name, api.OK)
			}
			for _, name := range []string{"", "6", "01", "A", ".2", " 2", "2 "} {
				text, e := netlist.Port(c, api.Port{Part: k, Name: name})
				expect(t, named("Port", c, k, name), text, e, "", api.ErrNone)
			}
		}
		for _, k := range []int{-1, math.MinInt, math.MaxInt, api.None, len(c.Parts), len(c.Parts) + 1} {
			for _, name := range []string{"1", ""} {
				text, e := netlist.Port(c, api.Port{Part: k, Name: name})
				expect(t, named("Port", c, k, name), text, e, "", api.ErrRange)
			}
		}
	}
}

func TestReadPort(t *testing.T) {
	for _, c := range append(someCircuits(232, 100), large(4)) {
		for k, p := range c.Parts {
			ports, _ := part.Ports(p.Kind)
			for _, name := range ports {
				got, e := netlist.ReadPort(c, p.Name+"."+name)
				expect(t, named("ReadPort", c, p, name), got, e, api.Port{Part: k, Name: name}, api.OK)
			}
			for _, name := range []string{"", "6", "01", "2.", "2.2", ".2", " 2", "2 ", "A"} {
				got, e := netlist.ReadPort(c, p.Name+"."+name)
				expect(t, named("ReadPort", c, p, name), got, e, api.Port{}, api.ErrNone)
			}
			got, e := netlist.ReadPort(c, p.Name)
			expect(t, named("ReadPort", c, p), got, e, api.Port{}, api.ErrSyntax)
		}
		for text, f := range map[string]api.Errno{"": api.ErrSyntax, "2": api.ErrSyntax, "A,2": api.ErrSyntax, "A 2": api.ErrSyntax, "\xff": api.ErrSyntax, ".": api.ErrNone, ".2": api.ErrNone, "Z.2": api.ErrNone, " A.2": api.ErrNone, "A .2": api.ErrNone, "0.2": api.ErrNone, strings.Repeat("A", 99999): api.ErrSyntax, strings.Repeat(".", 99999): api.ErrNone} {
			got, e := netlist.ReadPort(c, text)
			expect(t, "ReadPort", got, e, api.Port{}, f)
		}
	}
}

func TestFormat(t *testing.T) {
	for _, c := range append(someCircuits(233, 500), large(3), large(20)) {
		text, e := netlist.Format(c)
		expect(t, named("Format", c), text, e, textOf(c), api.OK)
	}
	text, e := netlist.Format(read("T delay, U counter", "T.12 U.2"))
	expect(t, "Format", text, e, "part T delay 50\npart U counter\npipe T.12 U.2\n", api.OK)
}

// sized returns a circuit whose text has so many bytes, up to about 16700, and more than 2400.
func sized(size int) api.Circuit {
	c := large(24)
	for k := range 4 {
		c.Parts[60+k] = partOf(part.Supply, fmt.Sprintf("W%d", k))
	}
	c.Pipes = c.Pipes[:240]
	for len(textOf(c)) > size {
		c.Pipes = c.Pipes[:len(c.Pipes)-1]
	}
	// A line of a pipe has fewer bytes than there may be in addition in four names.
	for k := range 4 {
		missing := min(size-len(textOf(c)), 22)
		c.Parts[60+k].Name += strings.Repeat("_", missing)
	}
	return c
}

func TestFormatOfLongTexts(t *testing.T) {
	for size := 16350; size < 16420; size++ {
		c := sized(size)
		same(t, "Check", circuit.Check(c), api.OK)
		same(t, "text", len(textOf(c)), size)
		expected, f := textOf(c), api.OK
		if size > 16384 {
			expected, f = "", api.ErrLong
		}
		text, e := netlist.Format(c)
		same(t, named("Format", size), text, expected)
		same(t, named("error of Format", size), e, f)
	}
	text, e := netlist.Format(large(24))
	expect(t, "Format", text, e, "", api.ErrLong)
}

func TestCount(t *testing.T) {
	for _, c := range append(someCircuits(234, 100), large(3)) {
		expected := make([]int, 14)
		for kind := range expected {
			for _, p := range c.Parts {
				if p.Kind == kind {
					expected[kind]++
				}
			}
		}
		count, e := netlist.Count(c)
		expect(t, named("Count", c), count, e, expected, api.OK)
	}
	count, e := netlist.Count(example())
	expect(t, "Count", count, e, []int{1, 1, 0, 1, 0, 0, 1, 0, 0, 0, 0, 0, 0, 0}, api.OK)
	count, e = netlist.Count(api.Circuit{})
	expect(t, "Count", count, e, make([]int, 14), api.OK)
}

func TestExamplesOfTheDocument(t *testing.T) {
	c := example()
	text, e := netlist.Format(c)
	expect(t, "Format", text, e, exampleText, api.OK)
	again, at, e := netlist.Parse(exampleText)
	expect(t, "Parse", []any{again, at}, e, []any{c, 0}, api.OK)
	renamed, e := netlist.Rename(c, "A", "C")
	expect(t, "Rename", textOf(renamed), e, "part C cylinder\npart C0 limit\npart S supply\npart V valve52s\npipe C.2 V.2\npipe C.4 V.4\npipe C0.1 S.1\npipe S.1 V.1\n", api.OK)
	renamed, e = netlist.Rename(c, "V", "A")
	expect(t, "Rename", renamed, e, api.Circuit{}, api.ErrTwice)
	again, at, e = netlist.Parse("pipe A.2 V.2\n" + exampleText)
	expect(t, "Parse", []any{again, at}, e, []any{api.Circuit{}, 0}, api.ErrNone)
	count, e := netlist.Count(c)
	expect(t, "Count", []int{count[part.Cylinder], count[part.Button]}, e, []int{1, 0}, api.OK)
}
