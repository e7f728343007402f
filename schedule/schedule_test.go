package schedule_test

import (
	"fmt"
	"math"
	"slices"
	"strings"
	"testing"

	"pneumatic/api"
	"pneumatic/schedule"
	"pneumatic/sequence"
	"pneumatic/stroke"
)

func same[T comparable](t *testing.T, what string, got, expected T) {
	t.Helper()
	if got != expected {
		t.Errorf("%s: %v instead of %v", what, got, expected)
	}
}

// expect compares a result and an error with those that are expected. Nil and empty lists are equal.
func expect(t *testing.T, what string, got any, e api.Errno, expected any, f api.Errno) {
	t.Helper()
	same(t, what, fmt.Sprint(got), fmt.Sprint(expected))
	same(t, "error of "+what, e, f)
}

// named returns the name of a call with a sequence and a plant.
func named(function string, s api.Sequence, p api.Plant) string {
	text, _ := stroke.Format(s.Steps)
	return fmt.Sprint(function, " ", s.Actuators, ": ", text, " ", p.Travels)
}

// read returns the sequence with a text.
func read(text string) api.Sequence {
	s, _, e := sequence.Parse(text)
	if e != api.OK {
		panic(text)
	}
	return s
}

func span(low, high int) api.Span { return api.Span{Low: low, High: high} }

// plant returns one with the spans of strokes out and in, by turns.
func plant(spans ...api.Span) api.Plant {
	var p api.Plant
	for i := 0; i < len(spans); i += 2 {
		p.Travels = append(p.Travels, api.Travel{Out: spans[i], In: spans[i+1]})
	}
	return p
}

// equalTravels returns a plant of so many actuators with one span for all strokes.
func equalTravels(n int, x api.Span) api.Plant {
	return plant(slices.Repeat([]api.Span{x}, 2*n)...)
}

// ofDocument returns the sequence and the plant of the examples.
func ofDocument() (api.Sequence, api.Plant) {
	return read("A+ B+; A- 100; B-"), plant(span(200, 300), span(150, 150), span(250, 250), span(100, 400))
}

// wrongSequences returns sequences with each error of sequence.Check.
func wrongSequences() []api.Sequence {
	right := read("A+; B+; B-; A-")
	of := func(actuators int, steps ...api.Step) api.Sequence {
		return api.Sequence{Actuators: actuators, Steps: steps}
	}
	return []api.Sequence{
		{}, of(-1, right.Steps...), of(7, right.Steps...), of(math.MaxInt, right.Steps...), of(1), of(1, make([]api.Step, 65)...), of(1, make([]api.Step, 64)...), of(1, right.Steps...), of(3, right.Steps...), of(2, right.Steps[:3]...), of(2, right.Steps[1:]...), of(1, api.Step{Strokes: []api.Stroke{{Actuator: 9}}}), of(1, api.Step{Strokes: make([]api.Stroke, 7)}), of(1, api.Step{Strokes: []api.Stroke{{Out: true}}, Wait: -1}, api.Step{Strokes: []api.Stroke{{}}}),
	}
}

// expectError checks that all functions return an error, whatever their other arguments are.
func expectError(t *testing.T, s api.Sequence, p api.Plant, f api.Errno) {
	t.Helper()
	what := fmt.Sprint(s, p.Travels[:min(9, len(p.Travels))])
	same(t, "Check "+what, schedule.Check(s, p), f)
	slots, e := schedule.Slots(s, p)
	expect(t, "Slots "+what, slots, e, []schedule.Slot{}, f)
	cycle, e := schedule.Cycle(s, p)
	expect(t, "Cycle "+what, cycle, e, api.Span{}, f)
	for _, k := range []int{0, -1, 99} {
		begin, end, e := schedule.Stroke(s, p, [2]int{k, -k})
		expect(t, "Stroke "+what, []api.Span{begin, end}, e, make([]api.Span, 2), f)
		last, e := schedule.Last(s, p, k)
		expect(t, "Last "+what, last, e, []int{}, f)
		busy, e := schedule.Busy(s, p, k)
		expect(t, "Busy "+what, busy, e, api.Span{}, f)
		surely, perhaps, e := schedule.Meets(s, p, k)
		expect(t, "Meets "+what, []bool{surely, perhaps}, e, make([]bool, 2), f)
	}
	for _, times := range [][][]int{nil, {{1}, {-1}}, {{1}, {1}, {1}, {1}}} {
		ends, e := schedule.Run(s, p, times)
		expect(t, "Run "+what, ends, e, []int{}, f)
	}
}

// P17.1

func TestErrorsOfCheck(t *testing.T) {
	for _, s := range wrongSequences() {
		f := sequence.Check(s)
		same(t, "Check", f == api.OK, false)
		for _, p := range []api.Plant{{}, equalTravels(1, span(1, 2)), equalTravels(2, span(-1, 2))} {
			expectError(t, s, p, f)
		}
	}
	s := read("A+ B+; A- 100; B-")
	for _, n := range []int{0, 1, 3, 6, 7, 100000} {
		expectError(t, s, equalTravels(n, span(1, 2)), api.ErrShape)
		expectError(t, s, equalTravels(n, span(2, 1)), api.ErrShape)
	}
	good, wide := span(1, 2), span(0, 1000000)
	outside, turned := []api.Span{span(-1, 2), span(0, 1000001), span(1000001, 0), span(math.MinInt, math.MaxInt), span(math.MaxInt, math.MaxInt), span(api.None, 0)}, span(2, 1)
	for place := range 4 {
		for _, other := range []api.Span{good, wide} {
			spans := slices.Repeat([]api.Span{other}, 4)
			spans[place] = turned
			expectError(t, s, plant(spans...), api.ErrOrder)
			for _, x := range outside {
				spans[place] = x
				expectError(t, s, plant(spans...), api.ErrRange)
				for further := place + 1; further < 4; further++ {
					both := slices.Clone(spans)
					both[further] = turned
					expectError(t, s, plant(both...), api.ErrRange)
					both[place], both[further] = turned, x
					expectError(t, s, plant(both...), api.ErrOrder)
				}
			}
		}
	}
}

func TestCyclesThatTakeTooLong(t *testing.T) {
	turns := read(strings.Repeat("A+ 1000000; A- 1000000; ", 31) + "A+ 1000000; A- 1000000")
	for _, x := range []struct {
		s api.Sequence
		p api.Plant
		e api.Errno
	}{
		{read("A+; A-"), plant(span(0, 500000), span(0, 500000)), api.OK}, {read("A+; A-"), plant(span(0, 500000), span(0, 500001)), api.ErrLarge}, {read("A+; A-"), plant(span(0, 1000000), span(0, 0)), api.OK}, {read("A+; A-"), plant(span(0, 1000000), span(0, 1)), api.ErrLarge}, {read("A+; A-"), plant(span(1, 1), span(0, 1000000)), api.ErrLarge}, {read("A+; A-"), plant(span(1000000, 1000000), span(1000000, 1000000)), api.ErrLarge},
		{read("A+ 1000000; A-"), plant(span(0, 0), span(0, 0)), api.OK}, {read("A+; A- 1000000"), plant(span(0, 0), span(0, 0)), api.OK}, {read("A+ 1000000; A- 1"), plant(span(0, 0), span(0, 0)), api.ErrLarge}, {read("A+; A- 1000000"), plant(span(0, 1), span(0, 0)), api.ErrLarge}, {read("A+ 999999; A-"), plant(span(0, 0), span(0, 1)), api.OK}, {read("A+ 999999; A-"), plant(span(0, 1), span(0, 1)), api.ErrLarge},
		{read("A+ B+; A- B-"), plant(span(0, 1000000), span(0, 0), span(0, 1000000), span(0, 0)), api.OK}, {read("A+ B+; A- B-"), plant(span(0, 1000000), span(0, 0), span(0, 0), span(0, 1)), api.ErrLarge}, {read("A+ B+; A-; B-"), plant(span(0, 600000), span(0, 200000), span(0, 1), span(0, 200000)), api.OK},
		{turns, plant(span(0, 0), span(0, 0)), api.ErrLarge}, {turns, plant(span(1000000, 1000000), span(1000000, 1000000)), api.ErrLarge},
	} {
		if x.e != api.OK {
			expectError(t, x.s, x.p, x.e)
			continue
		}
		same(t, named("Check", x.s, x.p), schedule.Check(x.s, x.p), api.OK)
		cycle, e := schedule.Cycle(x.s, x.p)
		same(t, named("Cycle", x.s, x.p), cycle.High, 1000000)
		same(t, "error of Cycle", e, api.OK)
	}
}

func TestOfTheDocument(t *testing.T) {
	s, p := ofDocument()
	same(t, "Check", schedule.Check(s, p), api.OK)
	slots, e := schedule.Slots(s, p)
	expect(t, "Slots", slots, e, []schedule.Slot{{span(0, 0), span(250, 300), span(250, 300)}, {span(250, 300), span(400, 450), span(500, 550)}, {span(500, 550), span(600, 950), span(600, 950)}}, api.OK)
	cycle, e := schedule.Cycle(s, p)
	expect(t, "Cycle", cycle, e, span(600, 950), api.OK)
	for k, expected := range [][]int{{0, 1}, {0}, {0}} {
		last, e := schedule.Last(s, p, k)
		expect(t, "Last", last, e, expected, api.OK)
	}
	for at, expected := range map[[2]int][2]api.Span{{0, 0}: {span(0, 0), span(200, 300)}, {0, 1}: {span(0, 0), span(250, 250)}, {1, 0}: {span(250, 300), span(400, 450)}, {2, 0}: {span(500, 550), span(600, 950)}} {
		begin, end, e := schedule.Stroke(s, p, at)
		expect(t, "Stroke", [2]api.Span{begin, end}, e, expected, api.OK)
	}
	for actuator, expected := range []api.Span{span(400, 450), span(600, 950)} {
		busy, e := schedule.Busy(s, p, actuator)
		expect(t, "Busy", busy, e, expected, api.OK)
	}
	for most, expected := range map[int][2]bool{950: {true, true}, 949: {false, true}, 600: {false, true}, 599: {false, false}, 0: {false, false}, 1000000: {true, true}} {
		surely, perhaps, e := schedule.Meets(s, p, most)
		expect(t, "Meets", [2]bool{surely, perhaps}, e, expected, api.OK)
	}
	ends, e := schedule.Run(s, p, [][]int{{240, 250}, {150}, {399}})
	expect(t, "Run", ends, e, []int{250, 500, 899}, api.OK)
}

func TestSpansHaveAllTimes(t *testing.T) {
	for _, m := range smallMachines() {
		times := seen{}
		m.choices(func(l [][]int) {
			x := m.moments(l)
			for k := range m.s.Steps {
				times.add(fmt.Sprint("begin", k), x.begin[k])
				times.add(fmt.Sprint("moved", k), x.moved[k])
				times.add(fmt.Sprint("end", k), x.end[k])
				for i, end := range x.ends[k] {
					times.add(fmt.Sprint("stroke", k, i), end)
				}
			}
			for actuator, busy := range x.busy {
				times.add(fmt.Sprint("busy", actuator), busy)
			}
		})
		slots, e := schedule.Slots(m.s, m.p)
		same(t, "error of Slots", e, api.OK)
		same(t, "number of Slots", len(slots), len(m.s.Steps))
		for k, slot := range slots {
			what := fmt.Sprint(named("Slots", m.s, m.p), slots)
			same(t, what, times.is(fmt.Sprint("begin", k), slot.Begin), true)
			same(t, what, times.is(fmt.Sprint("moved", k), slot.Moved), true)
			same(t, what, times.is(fmt.Sprint("end", k), slot.End), true)
			for i := range m.s.Steps[k].Strokes {
				begin, end, e := schedule.Stroke(m.s, m.p, [2]int{k, i})
				expect(t, named("Stroke", m.s, m.p), begin, e, slot.Begin, api.OK)
				same(t, named("Stroke", m.s, m.p), times.is(fmt.Sprint("stroke", k, i), end), true)
			}
		}
		cycle, e := schedule.Cycle(m.s, m.p)
		expect(t, named("Cycle", m.s, m.p), cycle, e, slots[len(slots)-1].End, api.OK)
		for actuator := range m.s.Actuators {
			busy, e := schedule.Busy(m.s, m.p, actuator)
			same(t, named("Busy", m.s, m.p), times.is(fmt.Sprint("busy", actuator), busy), true)
			same(t, "error of Busy", e, api.OK)
		}
	}
}

func TestSpansEndWithTheEndsOfTravels(t *testing.T) {
	for _, m := range machines() {
		least, greatest := m.moments(m.chosen(lowOf)), m.moments(m.chosen(highOf))
		var expected []schedule.Slot
		for k, step := range m.s.Steps {
			expected = append(expected, schedule.Slot{Begin: span(least.begin[k], greatest.begin[k]), Moved: span(least.moved[k], greatest.moved[k]), End: span(least.end[k], greatest.end[k])})
			for i := range step.Strokes {
				begin, end, e := schedule.Stroke(m.s, m.p, [2]int{k, i})
				expect(t, named("Stroke", m.s, m.p), [2]api.Span{begin, end}, e, [2]api.Span{expected[k].Begin, span(least.ends[k][i], greatest.ends[k][i])}, api.OK)
			}
		}
		same(t, "Check", schedule.Check(m.s, m.p), api.OK)
		slots, e := schedule.Slots(m.s, m.p)
		expect(t, named("Slots", m.s, m.p), slots, e, expected, api.OK)
		cycle, e := schedule.Cycle(m.s, m.p)
		expect(t, named("Cycle", m.s, m.p), cycle, e, expected[len(expected)-1].End, api.OK)
		for actuator := range m.s.Actuators {
			busy, e := schedule.Busy(m.s, m.p, actuator)
			expect(t, named("Busy", m.s, m.p), busy, e, span(least.busy[actuator], greatest.busy[actuator]), api.OK)
		}
	}
}

func lowOf(x api.Span) int  { return x.Low }
func highOf(x api.Span) int { return x.High }

func TestStrokesThatAreNotThere(t *testing.T) {
	s, p := ofDocument()
	for _, at := range [][2]int{{-1, 0}, {3, 0}, {64, 0}, {0, -1}, {0, 2}, {1, 1}, {2, 1}, {1, -1}, {-1, -1}, {3, 3}, {math.MinInt, 0}, {math.MaxInt, 0}, {0, math.MinInt}, {0, math.MaxInt}, {api.None, api.None}} {
		begin, end, e := schedule.Stroke(s, p, at)
		expect(t, fmt.Sprint("Stroke ", at), [2]api.Span{begin, end}, e, [2]api.Span{}, api.ErrRange)
	}
}

func TestLast(t *testing.T) {
	several := 0
	for _, m := range slices.Concat(machines(), smallMachines()) {
		for k, step := range m.s.Steps {
			var expected []int
			for i, x := range step.Strokes {
				if !slices.ContainsFunc(step.Strokes, func(y api.Stroke) bool { return m.spanOf(y).Low > m.spanOf(x).High }) {
					expected = append(expected, i)
				}
			}
			if len(expected) > 1 {
				several++
			}
			last, e := schedule.Last(m.s, m.p, k)
			expect(t, named("Last", m.s, m.p), last, e, expected, api.OK)
		}
	}
	if several < 500 {
		t.Errorf("only %d steps have several strokes that may be the last one", several)
	}
	s := read("A+ B+ C+; A- B- C-")
	p := plant(span(5, 9), span(0, 3), span(9, 9), span(3, 3), span(1, 8), span(4, 4))
	for k, expected := range [][]int{{0, 1}, {2}} {
		last, e := schedule.Last(s, p, k)
		expect(t, "Last", last, e, expected, api.OK)
	}
	for _, k := range []int{-1, 2, 3, 64, math.MinInt, math.MaxInt, api.None} {
		last, e := schedule.Last(s, p, k)
		expect(t, "Last", last, e, []int{}, api.ErrRange)
	}
}

func TestLastStrokesAreThoseThatEndLast(t *testing.T) {
	for _, m := range smallMachines() {
		are := map[[2]int]bool{}
		m.choices(func(times [][]int) {
			for k, l := range times {
				for i, time := range l {
					if time == slices.Max(l) {
						are[[2]int{k, i}] = true
					}
				}
			}
		})
		for k, step := range m.s.Steps {
			last, _ := schedule.Last(m.s, m.p, k)
			for i := range step.Strokes {
				same(t, named("Last", m.s, m.p), slices.Contains(last, i), are[[2]int{k, i}])
			}
		}
	}
}
