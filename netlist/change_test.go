package netlist_test

import (
	"fmt"
	"math/rand"
	"slices"
	"strings"
	"testing"

	"pneumatic/api"
	"pneumatic/circuit"
	"pneumatic/netlist"
	"pneumatic/part"
)

// P23.2

// drawingOf returns the drawing of a circuit.
func drawingOf(c api.Circuit) drawing {
	d := drawing{parts: slices.Clone(c.Parts)}
	for _, x := range c.Pipes {
		d.pipes = append(d.pipes, [2]string{c.Parts[x.From.Part].Name + "." + x.From.Name, c.Parts[x.To.Part].Name + "." + x.To.Name})
	}
	return d
}

// renamed follows the definition of Rename for right circuits.
func renamed(c api.Circuit, old, name string) (api.Circuit, api.Errno) {
	d := drawingOf(c)
	p, found := d.part(old)
	if !found {
		return api.Circuit{}, api.ErrNone
	}
	changes := map[string]string{old: name}
	for _, end := range []string{"0", "1"} {
		if limit, found := d.part(old + end); found && limit.Kind == part.Limit && p.Kind == part.Cylinder {
			changes[old+end] = name + end
		}
	}
	var result drawing
	for _, x := range d.parts {
		if other, found := changes[x.Name]; found {
			x.Name = other
		}
		if _, found := result.part(x.Name); found {
			return api.Circuit{}, api.ErrTwice
		}
		result.parts = append(result.parts, x)
	}
	// Names that are not right may have points, so that ports are not found by their texts.
	inOrder := result.circuit()
	if e := circuit.Check(inOrder); e != api.OK {
		return api.Circuit{}, e
	}
	for _, x := range d.pipes {
		for k := range x {
			its, port, _ := strings.Cut(x[k], ".")
			if other, found := changes[its]; found {
				x[k] = other + "." + port
			}
		}
		result.pipes = append(result.pipes, x)
	}
	return result.circuit(), api.OK
}

func TestRename(t *testing.T) {
	seen := map[api.Errno]int{}
	others := []string{"", "1", "A.2", "A b", "_", "é", "Z", "Z0", strings.Repeat("n", 23), strings.Repeat("n", 24), strings.Repeat("n", 25), strings.Repeat("-", 25)}
	for _, c := range someCircuits(237, 120) {
		for _, old := range append(slices.Clone(names), others...) {
			for _, name := range append(slices.Clone(names), others...) {
				expected, f := renamed(c, old, name)
				got, e := netlist.Rename(c, old, name)
				if !circuit.Same(got, expected) || e != f {
					t.Errorf("Rename of %v, %q, %q: %v, %d instead of %v, %d", c, old, name, got, e, expected, f)
				}
				same(t, "Check", circuit.Check(got), api.OK)
				seen[f]++
			}
		}
	}
	for _, e := range []api.Errno{api.OK, api.ErrNone, api.ErrTwice, api.ErrForm, api.ErrLong} {
		same(t, named("enough of", e, seen), seen[e] > 100, true)
	}
}

func TestRenameOfWrittenCircuits(t *testing.T) {
	const parts = "A cylinder, A0 limit, A1 limit, B cylinder, B1 limit, C0 button, S supply"
	const pipes = "A.2 A1.2, A.4 S.1, A0.1 S.1, B.2 C0.1, B1.1 S.1"
	long := strings.Repeat("n", 24)
	for _, x := range []struct {
		old, name, parts, pipes string
		e                       api.Errno
	}{
		{"A", "D", "B cylinder, B1 limit, C0 button, D cylinder, D0 limit, D1 limit, S supply", "B.2 C0.1, B1.1 S.1, D.2 D1.2, D.4 S.1, D0.1 S.1", api.OK},
		{"A", "T", "B cylinder, B1 limit, C0 button, S supply, T cylinder, T0 limit, T1 limit", "B.2 C0.1, B1.1 S.1, S.1 T.4, S.1 T0.1, T.2 T1.2", api.OK},
		{"A", "A", parts, pipes, api.OK},
		{"A", "A0", "A0 cylinder, A00 limit, A01 limit, B cylinder, B1 limit, C0 button, S supply", "A0.2 A01.2, A0.4 S.1, A00.1 S.1, B.2 C0.1, B1.1 S.1", api.OK},
		{"A", "B", "", "", api.ErrTwice}, {"A", "C", "", "", api.ErrTwice}, {"A", "S", "", "", api.ErrTwice}, {"B", "C0", "", "", api.ErrTwice}, {"B", "A", "", "", api.ErrTwice},
		{"B", "C", "A cylinder, A0 limit, A1 limit, C cylinder, C0 button, C1 limit, S supply", "A.2 A1.2, A.4 S.1, A0.1 S.1, C.2 C0.1, C1.1 S.1", api.OK},
		{"A1", "B0", "A cylinder, A0 limit, B cylinder, B0 limit, B1 limit, C0 button, S supply", "A.2 B0.2, A.4 S.1, A0.1 S.1, B.2 C0.1, B1.1 S.1", api.OK},
		{"A1", "B1", "", "", api.ErrTwice}, {"A1", "A2", "", "", api.ErrNone}, {"A1", "S0", "", "", api.ErrNone}, {"A1", "A", "", "", api.ErrTwice}, {"A1", "", "", "", api.ErrForm}, {"A1", "1", "", "", api.ErrForm},
		{"C0", "S0", "A cylinder, A0 limit, A1 limit, B cylinder, B1 limit, S supply, S0 button", "A.2 A1.2, A.4 S.1, A0.1 S.1, B.2 S0.1, B1.1 S.1", api.OK},
		{"C0", "A00", "A cylinder, A0 limit, A00 button, A1 limit, B cylinder, B1 limit, S supply", "A.2 A1.2, A.4 S.1, A0.1 S.1, A00.1 B.2, B1.1 S.1", api.OK},
		{"C0", "B0", "A cylinder, A0 limit, A1 limit, B cylinder, B0 button, B1 limit, S supply", "A.2 A1.2, A.4 S.1, A0.1 S.1, B.2 B0.1, B1.1 S.1", api.OK},
		{"S", long, "A cylinder, A0 limit, A1 limit, B cylinder, B1 limit, C0 button, " + long + " supply", "A.2 A1.2, A.4 " + long + ".1, A0.1 " + long + ".1, B.2 C0.1, B1.1 " + long + ".1", api.OK},
		{"S", long + "n", "", "", api.ErrLong}, {"B", long, "", "", api.ErrLong}, {"B", long[1:], "A cylinder, A0 limit, A1 limit, C0 button, S supply, " + long[1:] + " cylinder, " + long[1:] + "1 limit", "A.2 A1.2, A.4 S.1, A0.1 S.1, C0.1 " + long[1:] + ".2, S.1 " + long[1:] + "1.1", api.OK},
		{"S", "", "", "", api.ErrForm}, {"S", "a b", "", "", api.ErrForm}, {"S", "A.2", "", "", api.ErrForm}, {"S", "\xff", "", "", api.ErrForm}, {"B", "", "", "", api.ErrForm},
		{"", "", "", "", api.ErrNone}, {"D", "D", "", "", api.ErrNone}, {"a", "", "", "", api.ErrNone}, {"A.2", "D", "", "", api.ErrNone}, {"A ", "D", "", "", api.ErrNone},
	} {
		expected := api.Circuit{}
		if x.e == api.OK {
			expected = read(x.parts, x.pipes)
		}
		got, e := netlist.Rename(read(parts, pipes), x.old, x.name)
		expect(t, named("Rename", x), got, e, expected, x.e)
	}
	// ErrTwice comes before what is wrong with a name.
	both := read("A cylinder, A0 limit, "+long+" supply", "")
	got, e := netlist.Rename(both, "A", long)
	expect(t, "Rename", got, e, api.Circuit{}, api.ErrTwice)
	cylinders := read("A cylinder, A0 limit, B supply", "")
	got, e = netlist.Rename(cylinders, "A0", "B")
	expect(t, "Rename", got, e, api.Circuit{}, api.ErrTwice)
}

// united follows the definition of Union for right circuits.
func united(a, b api.Circuit) (api.Circuit, api.Errno) {
	d, other := drawingOf(a), drawingOf(b)
	for _, p := range other.parts {
		x, found := d.part(p.Name)
		if found && (x.Kind != p.Kind || x.Delay != p.Delay) {
			return api.Circuit{}, api.ErrConflict
		}
		if !found {
			d.parts = append(d.parts, p)
		}
	}
	for _, x := range other.pipes {
		if !d.joins(x[0], x[1]) {
			d.pipes = append(d.pipes, x)
		}
	}
	if len(d.parts) > 64 || len(d.pipes) > 256 {
		return api.Circuit{}, api.ErrMany
	}
	return d.circuit(), api.OK
}

func TestUnion(t *testing.T) {
	r, seen := rand.New(rand.NewSource(238)), map[api.Errno]int{}
	circuits := someCircuits(239, 150)
	for _, a := range circuits {
		others := []api.Circuit{{}, a, example(), piece(r, a), piece(r, a)}
		for range 40 {
			others = append(others, circuits[r.Intn(len(circuits))])
		}
		for _, b := range others {
			expected, f := united(a, b)
			got, e := netlist.Union(a, b)
			if !circuit.Same(got, expected) || e != f {
				t.Errorf("Union of %v, %v: %v, %d instead of %v, %d", a, b, got, e, expected, f)
			}
			same(t, "Check", circuit.Check(got), api.OK)
			seen[f]++
		}
	}
	for _, e := range []api.Errno{api.OK, api.ErrConflict} {
		same(t, named("enough of", e, seen), seen[e] > 500, true)
	}
}

// piece returns a circuit without some of its parts and pipes.
func piece(r *rand.Rand, c api.Circuit) api.Circuit {
	for _, p := range c.Parts {
		if r.Intn(3) == 0 {
			if less, e := circuit.Remove(c, p.Name); e == api.OK {
				c = less
			}
		}
	}
	return api.Circuit{Parts: c.Parts, Pipes: slices.DeleteFunc(slices.Clone(c.Pipes), func(api.Pipe) bool { return r.Intn(3) == 0 })}
}

func TestUnionOfWrittenCircuits(t *testing.T) {
	for _, x := range []struct {
		parts, pipes, others, joints, all, joined string
		e                                         api.Errno
	}{
		{"A cylinder, S supply", "A.2 S.1", "A cylinder, B button", "A.2 B.1, A.2 A.4", "A cylinder, B button, S supply", "A.2 A.4, A.2 B.1, A.2 S.1", api.OK},
		{"B cylinder, S supply", "B.2 S.1", "A cylinder, A1 limit, S supply", "A.2 S.1, A1.1 S.1", "A cylinder, A1 limit, B cylinder, S supply", "A.2 S.1, A1.1 S.1, B.2 S.1", api.OK},
		{"A cylinder, A0 limit", "", "A cylinder, A1 limit", "", "A cylinder, A0 limit, A1 limit", "", api.OK},
		{"T delay", "T.1 T.2", "T delay", "T.1 T.2", "T delay", "T.1 T.2", api.OK},
		{"A cylinder", "", "A supply", "", "", "", api.ErrConflict}, {"A cylinder, A0 limit", "", "A0 button", "", "", "", api.ErrConflict}, {"V valve32", "", "V valve32o", "", "", "", api.ErrConflict},
		{"", "", "A cylinder", "A.2 A.4", "A cylinder", "A.2 A.4", api.OK}, {"", "", "", "", "", "", api.OK},
	} {
		expected := api.Circuit{}
		if x.e == api.OK {
			expected = read(x.all, x.joined)
		}
		got, e := netlist.Union(read(x.parts, x.pipes), read(x.others, x.joints))
		expect(t, named("Union", x), got, e, expected, x.e)
	}
	short, long := read("T delay", ""), read("T delay", "")
	long.Parts[0].Delay++
	got, e := netlist.Union(short, long)
	expect(t, "Union", got, e, api.Circuit{}, api.ErrConflict)
}

func TestUnionOfManyPartsAndPipes(t *testing.T) {
	c := large(3)
	got, e := netlist.Union(c, c)
	expect(t, "Union", got, e, c, api.OK)
	for _, x := range []struct {
		parts, pipes string
		e            api.Errno
	}{{"W supply", "", api.ErrMany}, {"V00 valve52", "V00.1 V00.2", api.ErrMany}, {"V00 valve52", "V00.12 V00.2", api.OK}, {"V00 valve52s, W supply", "V00.1 V00.2", api.ErrConflict}, {"V00 valve52, W supply", "V00.12 V00.2", api.ErrMany}} {
		other := read(x.parts, x.pipes)
		expected := api.Circuit{}
		if x.e == api.OK {
			expected = c
		}
		got, e := netlist.Union(c, other)
		expect(t, named("Union", x), got, e, expected, x.e)
		got, e = netlist.Union(other, c)
		expect(t, named("Union", x), got, e, expected, x.e)
	}
	half := api.Circuit{Parts: c.Parts[:32], Pipes: c.Pipes[:128]}
	got, e = netlist.Union(half, read(strings.Join(partsFrom(32, 64), ", "), ""))
	expect(t, "Union", got, e, api.Circuit{Parts: c.Parts, Pipes: half.Pipes}, api.OK)
	got, e = netlist.Union(half, read(strings.Join(partsFrom(32, 65), ", "), ""))
	expect(t, "Union", got, e, api.Circuit{}, api.ErrMany)
}

// partsFrom returns parts like those of the large circuit.
func partsFrom(first, behind int) []string {
	var l []string
	for k := first; k < behind; k++ {
		l = append(l, fmt.Sprintf("V%02d valve52", k))
	}
	return l
}
