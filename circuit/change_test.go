package circuit_test

import (
	"cmp"
	"maps"
	"math/rand"
	"slices"
	"strings"
	"testing"

	"pneumatic/api"
	"pneumatic/circuit"
	"pneumatic/part"
)

// P21.2

// drawing has the parts of a circuit by their names, and its pipes between names.
type drawing struct {
	parts map[string]api.Part
	pipes [][2][2]string
}

func drawingOf(c api.Circuit) drawing {
	d := drawing{parts: map[string]api.Part{}}
	for _, p := range c.Parts {
		d.parts[p.Name] = p
	}
	for _, x := range c.Pipes {
		d.pipes = append(d.pipes, [2][2]string{{c.Parts[x.From.Part].Name, x.From.Name}, {c.Parts[x.To.Part].Name, x.To.Name}})
	}
	return d
}

// circuit returns the circuit in which everything is in order.
func (d drawing) circuit() api.Circuit {
	var c api.Circuit
	index := map[string]int{}
	for k, name := range slices.Sorted(maps.Keys(d.parts)) {
		c.Parts = append(c.Parts, d.parts[name])
		index[name] = k
	}
	for _, x := range d.pipes {
		from, to := api.Port{Part: index[x[0][0]], Name: x[0][1]}, api.Port{Part: index[x[1][0]], Name: x[1][1]}
		if isBefore(to, from) {
			from, to = to, from
		}
		c.Pipes = append(c.Pipes, api.Pipe{From: from, To: to})
	}
	sortPipes(c.Pipes)
	return c
}

// portError follows the definition of the errors of ports.
func portError(c api.Circuit, p api.Port) api.Errno {
	switch {
	case p.Part < 0 || p.Part >= len(c.Parts):
		return api.ErrRange
	case !slices.Contains(portNames(c.Parts[p.Part].Kind), p.Name):
		return api.ErrNone
	}
	return api.OK
}

// joinedWith follows the definition of Join for right circuits.
func joinedWith(c api.Circuit, a, b api.Port) (api.Circuit, api.Errno) {
	if e := cmp.Or(portError(c, a), portError(c, b)); e != api.OK {
		return api.Circuit{}, e
	}
	if a == b || slices.Contains(c.Pipes, api.Pipe{From: a, To: b}) || slices.Contains(c.Pipes, api.Pipe{From: b, To: a}) {
		return api.Circuit{}, api.ErrTwice
	}
	if len(c.Pipes) == 256 {
		return api.Circuit{}, api.ErrMany
	}
	d := drawingOf(c)
	d.pipes = append(d.pipes, [2][2]string{{c.Parts[a.Part].Name, a.Name}, {c.Parts[b.Part].Name, b.Name}})
	return d.circuit(), api.OK
}

func TestJoin(t *testing.T) {
	r, seen := rand.New(rand.NewSource(215)), map[api.Errno]int{}
	circuits := someCircuits(216)
	full, least := large(), large()
	full.Pipes, least.Pipes = full.Pipes[:256], least.Pipes[:255]
	for range 5 {
		circuits = append(circuits, full, least, example())
	}
	for _, c := range circuits {
		ends := append(allPorts(c), api.Port{Part: len(c.Parts), Name: "1"}, api.Port{Part: odd[r.Intn(len(odd)-3)], Name: "1"}, api.Port{Name: "6"}, api.Port{Part: len(c.Parts) - 1, Name: ""})
		for range 40 {
			a, b := ends[r.Intn(len(ends))], ends[r.Intn(len(ends))]
			if len(c.Pipes) > 0 && r.Intn(8) == 0 {
				x := c.Pipes[r.Intn(len(c.Pipes))]
				a, b = x.From, x.To
				if r.Intn(2) == 0 {
					a, b = b, a
				}
			}
			expected, f := joinedWith(c, a, b)
			got, e := circuit.Join(c, a, b)
			expect(t, named("Join", c, a, b), got, e, expected, f)
			same(t, named("Check", got), circuit.Check(got), api.OK)
			seen[f]++
		}
	}
	for _, e := range []api.Errno{api.OK, api.ErrRange, api.ErrNone, api.ErrTwice, api.ErrMany} {
		same(t, named("enough of", e, seen), seen[e] > 100, true)
	}
}

func TestErrorsOfJoinInOrder(t *testing.T) {
	c, many := example(), large()
	right, none, far := api.Port{Name: "2"}, api.Port{Name: "1"}, api.Port{Part: 4, Name: "2"}
	for _, x := range []struct {
		c    api.Circuit
		a, b api.Port
		e    api.Errno
	}{
		{c, none, far, api.ErrNone}, {c, far, none, api.ErrRange}, {c, right, far, api.ErrRange}, {c, right, none, api.ErrNone}, {c, none, none, api.ErrNone}, {c, far, far, api.ErrRange}, {c, right, right, api.ErrTwice},
		{c, port(c, "S.1"), port(c, "A0.1"), api.ErrTwice}, {c, port(c, "S.1"), port(c, "V.1"), api.ErrTwice},
		{many, api.Port{Part: 1, Name: "14"}, api.Port{Part: 1, Name: "2"}, api.ErrTwice}, {many, api.Port{Part: 1, Name: "14"}, api.Port{Part: 2, Name: "2"}, api.ErrMany}, {many, api.Port{Part: 1, Name: "14"}, api.Port{Part: 64, Name: "2"}, api.ErrRange}, {many, api.Port{Part: 1, Name: "5"}, api.Port{Part: 1, Name: "5"}, api.ErrTwice},
	} {
		got, e := circuit.Join(x.c, x.a, x.b)
		expect(t, named("Join", x.a, x.b), got, e, api.Circuit{}, x.e)
	}
	joined, e := circuit.Join(c, port(c, "V.14"), port(c, "A0.2"))
	expect(t, "Join", joined, e, read("A cylinder, A0 limit, S supply, V valve52s", "A.2 V.2, A.4 V.4, A0.1 S.1, A0.2 V.14, S.1 V.1"), api.OK)
}

// addedTo follows the definition of Add for right circuits.
func addedTo(c api.Circuit, p api.Part) (api.Circuit, api.Errno) {
	d := drawingOf(c)
	if _, found := d.parts[p.Name]; found {
		return api.Circuit{}, api.ErrTwice
	}
	d.parts[p.Name] = p
	added := d.circuit()
	if e := checked(added); e != api.OK {
		return api.Circuit{}, e
	}
	return added, api.OK
}

// anyPart returns a part that need not be right.
func anyPart(r *rand.Rand) api.Part {
	p := randomPart(r)
	switch r.Intn(8) {
	case 0:
		p.Kind = odd[r.Intn(len(odd))]
	case 1:
		p.Name = []string{"", "1", "A b", "A.2", strings.Repeat("n", 24), strings.Repeat("n", 25), strings.Repeat("Z", 1000)}[r.Intn(7)]
	case 2:
		p.Delay = append(odd, 1, api.MaxTime+1)[r.Intn(len(odd)+2)]
	}
	return p
}

func TestAdd(t *testing.T) {
	r, seen := rand.New(rand.NewSource(217)), map[api.Errno]int{}
	circuits := append(someCircuits(218), api.Circuit{})
	for range 5 {
		circuits = append(circuits, large(), example())
	}
	for _, c := range circuits {
		for range 30 {
			p := anyPart(r)
			expected, f := addedTo(c, p)
			got, e := circuit.Add(c, p)
			expect(t, named("Add", c, p), got, e, expected, f)
			same(t, named("Check", got), circuit.Check(got), api.OK)
			seen[f]++
		}
	}
	for _, e := range []api.Errno{api.OK, api.ErrArg, api.ErrForm, api.ErrLong, api.ErrRange, api.ErrNone, api.ErrTwice, api.ErrMany} {
		same(t, named("enough of", e, seen), seen[e] > 50, true)
	}
}

func TestErrorsOfAddInOrder(t *testing.T) {
	c, many := example(), large()
	for _, x := range []struct {
		c api.Circuit
		p api.Part
		e api.Errno
	}{
		{c, api.Part{Kind: part.Limit, Name: "B0"}, api.ErrNone}, {c, api.Part{Kind: part.Limit, Name: "V0"}, api.ErrNone}, {c, api.Part{Kind: part.Limit, Name: "A2"}, api.ErrNone}, {c, api.Part{Kind: -1, Name: "A"}, api.ErrTwice}, {c, api.Part{Kind: -1, Name: "?"}, api.ErrArg}, {c, api.Part{Kind: part.Limit, Name: "?"}, api.ErrForm}, {c, api.Part{Kind: part.Limit, Name: "B0", Delay: 1}, api.ErrRange}, {c, api.Part{Kind: part.Delay, Name: "B0"}, api.ErrRange}, {c, api.Part{Kind: part.Limit, Name: "A0"}, api.ErrTwice},
		{many, api.Part{Kind: -1, Name: "V00"}, api.ErrTwice}, {many, api.Part{Kind: -1, Name: ""}, api.ErrMany}, {many, api.Part{Kind: part.Supply, Name: "S"}, api.ErrMany},
		{api.Circuit{}, api.Part{}, api.ErrForm}, {api.Circuit{}, api.Part{Kind: part.Limit, Name: "A0"}, api.ErrNone},
	} {
		got, e := circuit.Add(x.c, x.p)
		expect(t, named("Add", x.p), got, e, api.Circuit{}, x.e)
	}
	first, e := circuit.Add(api.Circuit{}, api.Part{Kind: part.Delay, Name: "T", Delay: 50})
	expect(t, "Add", first, e, read("T delay", ""), api.OK)
	second, e := circuit.Add(c, api.Part{Kind: part.Limit, Name: "A1"})
	expect(t, "Add", second, e, read("A cylinder, A0 limit, A1 limit, S supply, V valve52s", "A.2 V.2, A.4 V.4, A0.1 S.1, S.1 V.1"), api.OK)
}

// without follows the definition of Remove for right circuits.
func without(c api.Circuit, name string) (api.Circuit, api.Errno) {
	d := drawingOf(c)
	p, found := d.parts[name]
	if !found {
		return api.Circuit{}, api.ErrNone
	}
	if p.Kind == part.Cylinder {
		for _, end := range "01" {
			if limit, found := d.parts[name+string(end)]; found && limit.Kind == part.Limit {
				return api.Circuit{}, api.ErrState
			}
		}
	}
	delete(d.parts, name)
	d.pipes = slices.DeleteFunc(d.pipes, func(x [2][2]string) bool { return x[0][0] == name || x[1][0] == name })
	return d.circuit(), api.OK
}

func TestRemove(t *testing.T) {
	seen := map[api.Errno]int{}
	for _, c := range append(append(someCircuits(219), large(), example()), small()[:3000]...) {
		for _, name := range append([]string{"", "V00", "V63", "x"}, names...) {
			expected, f := without(c, name)
			got, e := circuit.Remove(c, name)
			expect(t, named("Remove", c, name), got, e, expected, f)
			same(t, named("Check", got), circuit.Check(got), api.OK)
			seen[f]++
		}
	}
	for _, e := range []api.Errno{api.OK, api.ErrNone, api.ErrState} {
		same(t, named("enough of", e, seen), seen[e] > 300, true)
	}
	c := example()
	less, e := circuit.Remove(c, "V")
	expect(t, "Remove", less, e, read("A cylinder, A0 limit, S supply", "A0.1 S.1"), api.OK)
	nets, _ := circuit.Nets(less)
	same(t, "Nets", len(nets), 5)
	ports, _ := circuit.Ports(less)
	same(t, "Ports", len(ports), 6)
	_, e = circuit.Remove(less, "A")
	same(t, "Remove", e, api.ErrState)
	less, e = circuit.Remove(c, "A0")
	expect(t, "Remove", less, e, read("A cylinder, S supply, V valve52s", "A.2 V.2, A.4 V.4, S.1 V.1"), api.OK)
	less, e = circuit.Remove(less, "A")
	expect(t, "Remove", less, e, read("S supply, V valve52s", "S.1 V.1"), api.OK)
	less, e = circuit.Remove(read("A cylinder, A0 button, A1 supply", "A.2 A1.1, A0.1 A1.1"), "A")
	expect(t, "Remove", less, e, read("A0 button, A1 supply", "A0.1 A1.1"), api.OK)
}

func TestLimits(t *testing.T) {
	seen := map[string]int{}
	for _, c := range append(append(someCircuits(220), large(), example()), small()[:3000]...) {
		d := drawingOf(c)
		for _, name := range append([]string{"", "V00", "x"}, names...) {
			expected, f := []int{-1, -1}, api.OK
			if p, found := d.parts[name]; !found {
				expected, f = []int{0, 0}, api.ErrNone
			} else if p.Kind != part.Cylinder {
				expected, f = []int{0, 0}, api.ErrArg
			} else {
				for k, p := range c.Parts {
					if p.Kind == part.Limit && p.Name == name+"0" {
						expected[0] = k
					}
					if p.Kind == part.Limit && p.Name == name+"1" {
						expected[1] = k
					}
				}
			}
			in, out, e := circuit.Limits(c, name)
			expect(t, named("Limits", c, name), []int{in, out}, e, expected, f)
			seen[named("", f, expected[0] > 0, expected[1] > 0)]++
		}
	}
	same(t, named("enough of", seen), len(seen), 6)
	for _, x := range []struct {
		parts, name string
		in, out     int
		e           api.Errno
	}{
		{"A cylinder, A0 limit, S supply, V valve52s", "A", 1, -1, api.OK}, {"A cylinder, A0 limit, A1 limit", "A", 1, 2, api.OK}, {"A cylinder, A1 limit", "A", -1, 1, api.OK}, {"A cylinder, A0 button, A1 cylinder", "A", -1, -1, api.OK}, {"A cylinder, A0 cylinder, A00 limit, A01 limit", "A", -1, -1, api.OK}, {"A cylinder, A0 cylinder, A00 limit, A01 limit", "A0", 2, 3, api.OK}, {"A cylinder, A0 limit", "A0", 0, 0, api.ErrArg}, {"A cylinder, A0 limit", "A1", 0, 0, api.ErrNone}, {"A cylinder, A0 limit", "", 0, 0, api.ErrNone},
	} {
		in, out, e := circuit.Limits(read(x.parts, ""), x.name)
		expect(t, named("Limits", x.parts, x.name), []int{in, out}, e, []int{x.in, x.out}, x.e)
	}
}

func TestSame(t *testing.T) {
	l := append(append(someCircuits(221)[:60], wrong()...), large(), example(), api.Circuit{}, api.Circuit{Parts: []api.Part{}, Pipes: []api.Pipe{}})
	l = append(l, small()[:100]...)
	for _, a := range l {
		for _, b := range l {
			expected := len(a.Parts) == len(b.Parts) && len(a.Pipes) == len(b.Pipes)
			for k := range a.Parts {
				expected = expected && a.Parts[k] == b.Parts[k]
			}
			for k := range a.Pipes {
				expected = expected && a.Pipes[k] == b.Pipes[k]
			}
			same(t, named("Same", a, b), circuit.Same(a, b), expected)
		}
	}
	same(t, "Same", circuit.Same(api.Circuit{}, api.Circuit{Parts: []api.Part{}, Pipes: []api.Pipe{}}), true)
	r := rand.New(rand.NewSource(222))
	for _, c := range someCircuits(223) {
		other := damaged(r, c)
		same(t, named("Same", c, other), circuit.Same(c, other), named("", c) == named("", other))
		same(t, named("Same", c, c), circuit.Same(c, api.Circuit{Parts: slices.Clone(c.Parts), Pipes: slices.Clone(c.Pipes)}), true)
	}
}
