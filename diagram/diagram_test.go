package diagram_test

import (
	"fmt"
	"math"
	"math/rand"
	"slices"
	"strings"
	"testing"

	"pneumatic/api"
	"pneumatic/diagram"
	"pneumatic/sequence"
	"pneumatic/stroke"
)

func same[T comparable](t *testing.T, what string, got, expected T) {
	t.Helper()
	if got != expected {
		t.Errorf("%s: %v instead of %v", what, got, expected)
	}
}

// expect compares a result and an error with those that are expected. Nil and empty lists are equal.
func expect(t *testing.T, what string, got any, e api.Errno, expected any, f api.Errno) {
	t.Helper()
	same(t, what, written(got), written(expected))
	same(t, "error of "+what, e, f)
}

// written returns the text of a result, with quotes around the texts of a list.
func written(x any) string {
	if lines, ok := x.([]string); ok {
		return fmt.Sprintf("%q", lines)
	}
	return fmt.Sprint(x)
}

// named returns the name of a call with a sequence.
func named(function string, s api.Sequence) string {
	text, _ := stroke.Format(s.Steps)
	return fmt.Sprint(function, " ", s.Actuators, ": ", text)
}

// read returns the sequence with a text.
func read(text string) api.Sequence {
	s, _, e := sequence.Parse(text)
	if e != api.OK {
		panic(text)
	}
	return s
}

// shortSequences returns all sequences of up to three actuators with up to so many steps that do not wait.
func shortSequences(most int) []api.Sequence {
	var all []api.Sequence
	for actuators := 1; actuators <= 3; actuators++ {
		lists := [][]api.Step{nil}
		isOut := [][]bool{make([]bool, actuators)}
		for i := 0; i < len(lists); i++ {
			s := api.Sequence{Actuators: actuators, Steps: lists[i]}
			if sequence.Check(s) == api.OK {
				all = append(all, s)
			}
			if len(s.Steps) == most {
				continue
			}
			for chosen := 1; chosen < 1<<actuators; chosen++ {
				x, behind := step(isOut[i], func(actuator int) bool { return chosen>>actuator&1 == 1 })
				lists = append(lists, append(slices.Clone(s.Steps), x))
				isOut = append(isOut, behind)
			}
		}
	}
	return all
}

// step returns the step in which some actuators move, and the ends behind it.
func step(isOut []bool, moves func(actuator int) bool) (api.Step, []bool) {
	var x api.Step
	behind := slices.Clone(isOut)
	for actuator := range behind {
		if moves(actuator) {
			behind[actuator] = !behind[actuator]
			x.Strokes = append(x.Strokes, api.Stroke{Actuator: actuator, Out: behind[actuator]})
		}
	}
	return x, behind
}

// randomSequence returns one of up to 64 steps, with or without delays.
func randomSequence(r *rand.Rand) api.Sequence {
	s := api.Sequence{Actuators: 1 + r.Intn(6)}
	ends := make([]bool, s.Actuators)
	moved := make([]bool, s.Actuators)
	slow := r.Intn(2) * r.Intn(5)
	do := func(moves func(actuator int) bool) {
		x, behind := step(ends, moves)
		if len(x.Strokes) == 0 {
			return
		}
		if r.Intn(5) < slow {
			x.Wait = []int{1, 50, r.Intn(1000001), 1000000}[r.Intn(4)]
		}
		s.Steps, ends = append(s.Steps, x), behind
	}
	for range r.Intn(1 + 62/(1+r.Intn(20))) {
		do(func(actuator int) bool {
			chosen := r.Intn(3) == 0
			moved[actuator] = moved[actuator] || chosen
			return chosen
		})
	}
	do(func(actuator int) bool { return !moved[actuator] })
	do(func(actuator int) bool { return ends[actuator] })
	return s
}

// sequences returns short sequences and random ones.
func sequences() []api.Sequence {
	l := shortSequences(4)
	for k := range l {
		if k%3 == 0 {
			l[k].Steps = slices.Clone(l[k].Steps)
			l[k].Steps[k%len(l[k].Steps)].Wait = 7 * k
		}
	}
	r := rand.New(rand.NewSource(161))
	for range 300 {
		l = append(l, randomSequence(r))
	}
	return append(l, read(strings.Repeat("A+; A-; ", 31)+"A+; A-"))
}

// wrongSequences returns sequences with each error of sequence.Check.
func wrongSequences() []api.Sequence {
	right := read("A+; B+; B-; A-")
	of := func(actuators int, steps ...api.Step) api.Sequence {
		return api.Sequence{Actuators: actuators, Steps: steps}
	}
	return []api.Sequence{
		{}, of(-1, right.Steps...), of(7, right.Steps...), of(math.MaxInt, right.Steps...), of(1), of(1, make([]api.Step, 65)...), of(1, make([]api.Step, 64)...), of(1, right.Steps...), of(3, right.Steps...), of(2, right.Steps[:3]...), of(2, right.Steps[1:]...), of(2, append(slices.Clone(right.Steps), right.Steps[0])...), of(1, api.Step{Strokes: []api.Stroke{{Actuator: 9}}}), of(1, api.Step{Strokes: make([]api.Stroke, 7)}), of(1, api.Step{Strokes: []api.Stroke{{Out: true}}, Wait: -1}, api.Step{Strokes: []api.Stroke{{}}}),
	}
}

// drawn follows the definition: so many first bytes for each step, or one without widths.
func drawn(s api.Sequence, widths []int) []string {
	var lines []string
	for actuator := range s.Actuators {
		line, isOut := "ABCDEF"[actuator:actuator+1]+" _", false
		for k, x := range s.Steps {
			n := 1
			if widths != nil {
				n = widths[k]
			}
			first := map[bool]string{false: "_", true: "-"}[isOut]
			if slices.ContainsFunc(x.Strokes, func(y api.Stroke) bool { return y.Actuator == actuator }) {
				first = map[bool]string{false: "/", true: "\\"}[isOut]
				isOut = !isOut
			}
			line += strings.Repeat(first, n) + map[bool]string{false: "_", true: "-"}[isOut]
		}
		lines = append(lines, line)
	}
	return lines
}

// diagramOf follows the definition.
func diagramOf(s api.Sequence) []string {
	lines, last, hasWaits := drawn(s, nil), "T", false
	for _, x := range s.Steps {
		last += fmt.Sprint(" ", x.Wait)
		hasWaits = hasWaits || x.Wait != 0
	}
	if hasWaits {
		lines = append(lines, last)
	}
	return lines
}

// P16.1: Draw, Column and Switches

func TestDraw(t *testing.T) {
	for _, s := range sequences() {
		lines, e := diagram.Draw(s)
		expect(t, named("Draw", s), lines, e, diagramOf(s), api.OK)
	}
	for text, expected := range map[string][]string{
		"A+; B+ 50; A- B-":                       {"A _/---\\_", "B ___/-\\_", "T 0 50 0"},
		"A+; B+; B-; A-":                         {"A _/-----\\_", "B ___/-\\___"},
		"A+; A-":                                 {"A _/-\\_"},
		"A+ 1000000; A- 1":                       {"A _/-\\_", "T 1000000 1"},
		"A+ B+; A-; A+; A- B- 20":                {"A _/-\\_/-\\_", "B _/-----\\_", "T 0 0 0 20"},
		"F+; A+ B+ C+ D+ E+; A- B- C- D- E-; F-": {"A ___/-\\___", "B ___/-\\___", "C ___/-\\___", "D ___/-\\___", "E ___/-\\___", "F _/-----\\_"},
	} {
		lines, e := diagram.Draw(read(text))
		expect(t, "Draw "+text, lines, e, expected, api.OK)
	}
}

func TestErrorsOfSequences(t *testing.T) {
	for _, s := range wrongSequences() {
		f := sequence.Check(s)
		same(t, "Check", f == api.OK, false)
		lines, e := diagram.Draw(s)
		expect(t, "Draw", lines, e, []string{}, f)
		for _, k := range []int{0, -1, 70} {
			column, e := diagram.Column(s, k)
			expect(t, "Column", column, e, "", f)
			lines, e = diagram.Marks(s, []int{k})
			expect(t, "Marks", lines, e, []string{}, f)
		}
		lines, e = diagram.Switches(s)
		expect(t, "Switches", lines, e, []string{}, f)
		for _, times := range [][]int{nil, make([]int, len(s.Steps)), {-1}} {
			lines, e = diagram.Scale(s, times, len(times))
			expect(t, "Scale", lines, e, []string{}, f)
		}
	}
}

func TestColumn(t *testing.T) {
	for _, s := range sequences() {
		for k := range s.Steps {
			var expected string
			for _, line := range drawn(s, nil) {
				expected += line[3+2*k : 4+2*k]
			}
			column, e := diagram.Column(s, k)
			expect(t, named("Column", s), column, e, expected, api.OK)
		}
		for _, k := range []int{-1, len(s.Steps), 64, math.MinInt, math.MaxInt, api.None} {
			column, e := diagram.Column(s, k)
			expect(t, named("Column", s), column, e, "", api.ErrRange)
		}
	}
	s := read("A+; B+ 50; A- B-")
	for k, expected := range []string{"/_", "-/", "\\\\"} {
		column, e := diagram.Column(s, k)
		expect(t, "Column", column, e, expected, api.OK)
	}
}

func TestSwitches(t *testing.T) {
	for _, s := range sequences() {
		var expected []string
		for actuator := range s.Actuators {
			for end, letter := range []string{"0 ", "1 "} {
				line := "ABCDEF"[actuator:actuator+1] + letter
				for k := range len(s.Steps) + 1 {
					ends, _ := sequence.Ends(s, k)
					line += map[bool]string{false: ".", true: "#"}[ends[actuator] == (end == 1)]
				}
				expected = append(expected, line)
			}
		}
		lines, e := diagram.Switches(s)
		expect(t, named("Switches", s), lines, e, expected, api.OK)
	}
	lines, e := diagram.Switches(read("A+; B+ 50; A- B-"))
	expect(t, "Switches", lines, e, []string{"A0 #..#", "A1 .##.", "B0 ##.#", "B1 ..#."}, api.OK)
}

// P16.2: Marks and Scale

func TestMarks(t *testing.T) {
	r := rand.New(rand.NewSource(162))
	for _, s := range sequences() {
		for range 4 {
			var before []int
			dense := r.Intn(4)
			for k := range s.Steps {
				if r.Intn(3) < dense {
					before = append(before, k)
				}
			}
			var expected []string
			for _, line := range drawn(s, nil) {
				marked := line[:3]
				for k := range s.Steps {
					if slices.Contains(before, k) {
						marked += "|"
					}
					marked += line[3+2*k : 5+2*k]
				}
				expected = append(expected, marked)
			}
			lines, e := diagram.Marks(s, before)
			expect(t, named("Marks", s), lines, e, expected, api.OK)
		}
	}
	s := read("A+; B+ 50; A- B-")
	for _, x := range []struct {
		before   []int
		expected []string
		e        api.Errno
	}{
		{[]int{0, 2}, []string{"A _|/---|\\_", "B _|__/-|\\_"}, api.OK}, {[]int{0, 1, 2}, []string{"A _|/-|--|\\_", "B _|__|/-|\\_"}, api.OK}, {nil, []string{"A _/---\\_", "B ___/-\\_"}, api.OK}, {[]int{1}, []string{"A _/-|--\\_", "B ___|/-\\_"}, api.OK},
		{[]int{3}, nil, api.ErrRange}, {[]int{-1}, nil, api.ErrRange}, {[]int{1, 1}, nil, api.ErrOrder}, {[]int{1, 0}, nil, api.ErrOrder}, {[]int{1, 0, 3}, nil, api.ErrOrder}, {[]int{1, 3, 0}, nil, api.ErrRange}, {[]int{1, -1}, nil, api.ErrRange}, {[]int{0, 1, 2, 3}, nil, api.ErrRange}, {[]int{0, 2, 1}, nil, api.ErrOrder}, {[]int{3, 3}, nil, api.ErrRange}, {[]int{math.MinInt, 0}, nil, api.ErrRange}, {[]int{0, math.MaxInt}, nil, api.ErrRange}, {make([]int, 1<<20), nil, api.ErrOrder},
	} {
		lines, e := diagram.Marks(s, x.before)
		expect(t, "Marks", lines, e, x.expected, x.e)
	}
}

func TestScale(t *testing.T) {
	r := rand.New(rand.NewSource(163))
	for _, s := range sequences() {
		for range 3 {
			unit := []int{1, 7, 10, 1000, 1000000}[r.Intn(5)]
			var times, widths []int
			length := 3
			for range s.Steps {
				width := r.Intn(6)
				time := max(0, min(1000000, width*unit-r.Intn(unit)))
				times = append(times, time)
				widths = append(widths, max(1, int(math.Ceil(float64(time)/float64(unit)))))
				length += widths[len(widths)-1] + 1
			}
			lines, e := diagram.Scale(s, times, unit)
			if length > 4096 {
				expect(t, named("Scale", s), lines, e, []string{}, api.ErrLong)
				continue
			}
			expect(t, named("Scale", s), lines, e, drawn(s, widths), api.OK)
		}
	}
}

func TestErrorsOfScale(t *testing.T) {
	s, turn := read("A+; B+ 50; A- B-"), read("A+; A-")
	for _, x := range []struct {
		s        api.Sequence
		times    []int
		unit     int
		expected []string
		e        api.Errno
	}{
		{s, []int{0, 25, 30}, 10, []string{"A _/-----\\\\\\_", "B ___///-\\\\\\_"}, api.OK}, {s, []int{30, 0, 0}, 30, []string{"A _/---\\_", "B ___/-\\_"}, api.OK}, {s, []int{31, 30, 29}, 30, []string{"A _//---\\_", "B ____/-\\_"}, api.OK}, {s, []int{1000000, 999999, 1}, 1000000, []string{"A _/---\\_", "B ___/-\\_"}, api.OK},
		{s, nil, 1, nil, api.ErrShape}, {s, []int{1, 2}, 0, nil, api.ErrShape}, {s, []int{1, 2, 3, -1}, 1, nil, api.ErrShape}, {s, []int{1, 2, -1}, 1, nil, api.ErrRange}, {s, []int{1000001, 2, 3}, 1000000, nil, api.ErrRange}, {s, []int{0, math.MaxInt, 0}, 1, nil, api.ErrRange}, {s, []int{0, math.MinInt, 0}, 1, nil, api.ErrRange}, {s, []int{1, 2, 3}, 0, nil, api.ErrRange}, {s, []int{1, 2, 3}, -1, nil, api.ErrRange}, {s, []int{1, 2, 3}, 1000001, nil, api.ErrRange}, {s, []int{1, 2, 3}, math.MaxInt, nil, api.ErrRange}, {s, []int{1000000, 1000000, 1000000}, 0, nil, api.ErrRange},
		{turn, []int{4090, 1}, 1, drawn(turn, []int{4090, 1}), api.OK}, {turn, []int{4091, 1}, 1, nil, api.ErrLong}, {turn, []int{4091, 0}, 1, nil, api.ErrLong}, {turn, []int{2045, 2046}, 1, drawn(turn, []int{2045, 2046}), api.OK}, {turn, []int{2046, 2046}, 1, nil, api.ErrLong}, {turn, []int{40900, 10}, 10, drawn(turn, []int{4090, 1}), api.OK}, {turn, []int{40901, 10}, 10, nil, api.ErrLong}, {turn, []int{1000000, 1000000}, 1, nil, api.ErrLong}, {turn, []int{4096, -1}, 1, nil, api.ErrRange}, {turn, []int{1000000, 0}, 0, nil, api.ErrRange},
	} {
		lines, e := diagram.Scale(x.s, x.times, x.unit)
		expect(t, named("Scale", x.s), lines, e, x.expected, x.e)
	}
}
