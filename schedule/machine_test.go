package schedule_test

import (
	"math/rand"
	"slices"

	"pneumatic/api"
)

// randomSequence returns one of up to 40 steps, with or without delays of up to so much.
func randomSequence(r *rand.Rand, longest int) api.Sequence {
	s := api.Sequence{Actuators: 1 + r.Intn(6)}
	isOut, moved := make([]bool, s.Actuators), make([]bool, s.Actuators)
	do := func(moves func(actuator int) bool) {
		var x api.Step
		for actuator := range isOut {
			if moves(actuator) {
				isOut[actuator], moved[actuator] = !isOut[actuator], true
				x.Strokes = append(x.Strokes, api.Stroke{Actuator: actuator, Out: isOut[actuator]})
			}
		}
		x.Wait = r.Intn(2) * r.Intn(longest+1)
		if len(x.Strokes) > 0 {
			s.Steps = append(s.Steps, x)
		}
	}
	for range r.Intn(1 + 38/(1+r.Intn(10))) {
		do(func(int) bool { return r.Intn(3) == 0 })
	}
	do(func(actuator int) bool { return !moved[actuator] })
	do(func(actuator int) bool { return isOut[actuator] })
	return s
}

// randomPlant returns one with spans of times up to so much.
func randomPlant(r *rand.Rand, actuators, longest int) api.Plant {
	var spans []api.Span
	for range 2 * actuators {
		x, y := r.Intn(longest+1), r.Intn(longest+1)
		if r.Intn(4) == 0 {
			y = x
		}
		spans = append(spans, span(min(x, y), max(x, y)))
	}
	return plant(spans...)
}

// machine is a sequence with a plant.
type machine struct {
	s api.Sequence
	p api.Plant
}

// machines returns random ones, of which none takes too long.
func machines() []machine {
	s, p := ofDocument()
	l := []machine{{s, p}, {s, equalTravels(2, span(0, 0))}, {read("A+; A-"), equalTravels(1, span(0, 500000))}}
	r := rand.New(rand.NewSource(171))
	for range 1500 {
		longest := []int{5, 100, 10000}[r.Intn(3)]
		s := randomSequence(r, longest)
		l = append(l, machine{s, randomPlant(r, s.Actuators, longest)})
	}
	return l
}

// smallMachines returns those of which all choices of times can be tried.
func smallMachines() []machine {
	var l []machine
	r := rand.New(rand.NewSource(172))
	for _, text := range []string{"A+; A-", "A+ 3; A- 2", "A+; B+; B-; A-", "A+ B+; A- B-", "A+ B+ 1; A-; B- 2", "A+; A- B+; B- 1", "A+ B+ C+; A- B- C-", "A+; A- 1; A+ B+; A- B-", "C+; A+ B+ C- 2; A-; B-"} {
		for range 30 {
			s := read(text)
			p := randomPlant(r, s.Actuators, 12)
			for i := range p.Travels {
				x := &p.Travels[i]
				x.Out.High, x.In.High = min(x.Out.High, x.Out.Low+2), min(x.In.High, x.In.Low+2)
			}
			l = append(l, machine{s, p})
		}
	}
	return l
}

// spanOf returns the span of a stroke.
func (m machine) spanOf(x api.Stroke) api.Span {
	if x.Out {
		return m.p.Travels[x.Actuator].Out
	}
	return m.p.Travels[x.Actuator].In
}

// choices calls f with all choices of times for the strokes.
func (m machine) choices(f func(times [][]int)) {
	times := make([][]int, len(m.s.Steps))
	var choose func(k, i int)
	choose = func(k, i int) {
		switch {
		case k == len(times):
			f(times)
		case i == len(m.s.Steps[k].Strokes):
			choose(k+1, 0)
		default:
			if i == 0 {
				times[k] = make([]int, len(m.s.Steps[k].Strokes))
			}
			for x, time := m.spanOf(m.s.Steps[k].Strokes[i]), 0; x.Low+time <= x.High; time++ {
				times[k][i] = x.Low + time
				choose(k, i+1)
			}
		}
	}
	choose(0, 0)
}

// chosen returns a time for each stroke.
func (m machine) chosen(time func(api.Span) int) [][]int {
	var times [][]int
	for _, step := range m.s.Steps {
		var l []int
		for _, x := range step.Strokes {
			l = append(l, time(m.spanOf(x)))
		}
		times = append(times, l)
	}
	return times
}

// moments has what happens in a run: of each step when it begins, has moved and ends, of each stroke when it ends, and of each actuator how long it is out.
type moments struct {
	begin, moved, end []int
	ends              [][]int
	busy              []int
}

// moments follows the definitions for chosen times.
func (m machine) moments(times [][]int) moments {
	l := moments{busy: make([]int, m.s.Actuators)}
	now := 0
	for k, step := range m.s.Steps {
		begin := now
		var ends []int
		for i, x := range step.Strokes {
			ends = append(ends, begin+times[k][i])
			if x.Out {
				l.busy[x.Actuator] -= begin
			} else {
				l.busy[x.Actuator] += ends[i]
			}
		}
		moved := slices.Max(ends)
		now = moved + step.Wait
		l.begin, l.moved, l.end, l.ends = append(l.begin, begin), append(l.moved, moved), append(l.end, now), append(l.ends, ends)
	}
	return l
}

// seen has the times that were seen, by what they are times of.
type seen map[string]map[int]bool

func (x seen) add(what string, time int) {
	if x[what] == nil {
		x[what] = map[int]bool{}
	}
	x[what][time] = true
}

// is reports whether the times that were seen are just those of a span.
func (x seen) is(what string, expected api.Span) bool {
	for time := range x[what] {
		if time < expected.Low || time > expected.High {
			return false
		}
	}
	return len(x[what]) == expected.High-expected.Low+1
}
