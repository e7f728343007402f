package diagram_test

import (
	"fmt"
	"math/rand"
	"slices"
	"strings"
	"testing"

	"pneumatic/api"
	"pneumatic/diagram"
	"pneumatic/sequence"
)

// P16.3

// withoutWaits returns a sequence without its delays.
func withoutWaits(s api.Sequence) api.Sequence {
	s.Steps = slices.Clone(s.Steps)
	for k := range s.Steps {
		s.Steps[k].Wait = 0
	}
	return s
}

func TestDiagramsAreReadBack(t *testing.T) {
	r := rand.New(rand.NewSource(165))
	for _, s := range sequences() {
		lines, e := diagram.Draw(s)
		same(t, "error of Draw", e, api.OK)
		again, e := diagram.Read(lines)
		expect(t, named("Read", s), again, e, s, api.OK)
		same(t, named("Same", s), sequence.Same(again, s), true)
		var times, widths []int
		for range s.Steps {
			times = append(times, r.Intn(200))
			widths = append(widths, max(1, (times[len(times)-1]+9)/10))
		}
		lines, e = diagram.Scale(s, times, 10)
		same(t, "error of Scale", e, api.OK)
		again, l, e := diagram.Unscale(lines)
		expect(t, named("Unscale", s), again, e, withoutWaits(s), api.OK)
		expect(t, named("widths of", s), l, e, widths, api.OK)
		lines, e = diagram.Scale(s, make([]int, len(s.Steps)), 1)
		narrow, _ := diagram.Draw(withoutWaits(s))
		expect(t, named("Scale", s), lines, e, narrow, api.OK)
	}
}

func TestLimitSwitches(t *testing.T) {
	for _, s := range sequences() {
		lines, e := diagram.Switches(s)
		same(t, "error of Switches", e, api.OK)
		same(t, named("number of Switches", s), len(lines), 2*s.Actuators)
		for k := range len(s.Steps) + 1 {
			ends, _ := sequence.Ends(s, k)
			for actuator, isOut := range ends {
				both := lines[2*actuator][3+k:4+k] + lines[2*actuator+1][3+k:4+k]
				same(t, named("Switches", s), both, map[bool]string{false: "#.", true: ".#"}[isOut])
			}
		}
	}
}

func TestMarksAreAllThatIsAdded(t *testing.T) {
	for _, s := range sequences() {
		plain, _ := diagram.Draw(withoutWaits(s))
		for first := range s.Steps {
			before := []int{first}
			if last := len(s.Steps) - 1; first < last {
				before = append(before, last)
			}
			lines, e := diagram.Marks(s, before)
			same(t, "error of Marks", e, api.OK)
			for i := range lines {
				same(t, named("number of marks", s), strings.Count(lines[i], "|"), len(before))
				lines[i] = strings.ReplaceAll(lines[i], "|", "")
			}
			expect(t, named("Marks", s), lines, e, plain, api.OK)
		}
		lines, _ := diagram.Draw(s)
		same(t, named("Draw", s), joined(lines[:s.Actuators]), joined(plain))
		same(t, named("number of lines of Draw", s), len(lines) > s.Actuators, !sequence.Same(s, withoutWaits(s)))
	}
}

// The rules of all layers about memory

func TestArgumentsAndResultsAreNotShared(t *testing.T) {
	s, kept := read("A+; B+ 50; A- B-"), read("A+; B+ 50; A- B-")
	before, times, lines := []int{0, 2}, []int{0, 25, 30}, diagramOf(s)
	spoil := func(l []string) { clear(l[:cap(l)]) }
	for range 2 {
		l, e := diagram.Draw(s)
		expect(t, "Draw", l, e, lines, api.OK)
		spoil(l)
		l, e = diagram.Switches(s)
		expect(t, "Switches", l, e, []string{"A0 #..#", "A1 .##.", "B0 ##.#", "B1 ..#."}, api.OK)
		spoil(l)
		l, e = diagram.Marks(s, before)
		expect(t, "Marks", l, e, []string{"A _|/---|\\_", "B _|__/-|\\_"}, api.OK)
		spoil(l)
		scaled, e := diagram.Scale(s, times, 10)
		expect(t, "Scale", scaled, e, drawn(s, []int{1, 3, 3}), api.OK)
		again, widths, e := diagram.Unscale(scaled)
		expect(t, "Unscale", again, e, withoutWaits(kept), api.OK)
		clear(widths[:cap(widths)])
		spoil(scaled)
		read, e := diagram.Read(lines)
		expect(t, "Read", read, e, kept, api.OK)
		for _, x := range append(again.Steps, read.Steps...) {
			clear(x.Strokes[:cap(x.Strokes)])
		}
		clear(read.Steps[:cap(read.Steps)])
		diagram.Column(s, 1)
	}
	expect(t, "argument", s, api.OK, kept, api.OK)
	same(t, "arguments", fmt.Sprint(before, times, lines), fmt.Sprint([]int{0, 2}, []int{0, 25, 30}, diagramOf(s)))
}
