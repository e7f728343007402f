package schedule_test

import (
	"fmt"
	"math/rand"
	"slices"
	"testing"

	"pneumatic/api"
	"pneumatic/schedule"
	"pneumatic/timespan"
)

// P17.3

func TestRunsAreWithinTheSlots(t *testing.T) {
	r := rand.New(rand.NewSource(174))
	for _, m := range machines() {
		slots, _ := schedule.Slots(m.s, m.p)
		for range 5 {
			times := m.chosen(func(x api.Span) int { return x.Low + r.Intn(x.High-x.Low+1) })
			ends, _ := schedule.Run(m.s, m.p, times)
			for k, end := range ends {
				same(t, named("Run", m.s, m.p), slots[k].End.Low <= end && end <= slots[k].End.High, true)
			}
		}
		first, _ := schedule.Run(m.s, m.p, m.chosen(lowOf))
		last, _ := schedule.Run(m.s, m.p, m.chosen(highOf))
		for k, slot := range slots {
			same(t, named("Run", m.s, m.p), span(first[k], last[k]), slot.End)
		}
	}
}

func TestStepsDoNotOverlap(t *testing.T) {
	for _, m := range machines() {
		slots, _ := schedule.Slots(m.s, m.p)
		end := span(0, 0)
		for k, slot := range slots {
			same(t, named("Slots", m.s, m.p), slot.Begin, end)
			same(t, named("Slots", m.s, m.p), slot.Begin.Low <= slot.Moved.Low && slot.Begin.High <= slot.Moved.High, true)
			wait := m.s.Steps[k].Wait
			same(t, named("Slots", m.s, m.p), slot.End, span(slot.Moved.Low+wait, slot.Moved.High+wait))
			end = slot.End
		}
	}
}

// spansOf returns all spans that follow for a machine.
func (m machine) spansOf() []api.Span {
	slots, _ := schedule.Slots(m.s, m.p)
	var l []api.Span
	for k, slot := range slots {
		l = append(l, slot.Begin, slot.Moved, slot.End)
		for i := range m.s.Steps[k].Strokes {
			begin, end, _ := schedule.Stroke(m.s, m.p, [2]int{k, i})
			l = append(l, begin, end)
		}
	}
	for actuator := range m.s.Actuators {
		busy, _ := schedule.Busy(m.s, m.p, actuator)
		l = append(l, busy)
	}
	return l
}

func TestWiderSpansMakeNoSpanNarrower(t *testing.T) {
	r := rand.New(rand.NewSource(175))
	for _, m := range machines() {
		wider := machine{m.s, api.Plant{Travels: slices.Clone(m.p.Travels)}}
		for i := range wider.p.Travels {
			for _, x := range []*api.Span{&wider.p.Travels[i].Out, &wider.p.Travels[i].In} {
				if r.Intn(3) == 0 {
					x.Low, x.High = x.Low-r.Intn(x.Low+1), x.High+r.Intn(100)
				}
			}
		}
		if schedule.Check(wider.s, wider.p) != api.OK {
			continue
		}
		narrow, wide := m.spansOf(), wider.spansOf()
		same(t, named("number of spans", m.s, m.p), len(narrow), len(wide))
		for i := range narrow {
			within, e := timespan.Within(narrow[i], wide[i])
			expect(t, named("Slots, Stroke and Busy", m.s, m.p), within, e, true, api.OK)
		}
	}
}

func TestTheCycleIsTheSumOfThoseOfItsParts(t *testing.T) {
	r := rand.New(rand.NewSource(176))
	parts := 0
	for range 3000 {
		first, second := randomSequence(r, 50), randomSequence(r, 50)
		if len(first.Steps)+len(second.Steps) > 64 || first.Actuators != second.Actuators {
			continue
		}
		s := api.Sequence{Actuators: first.Actuators, Steps: slices.Concat(first.Steps, second.Steps)}
		p := randomPlant(r, s.Actuators, 100)
		whole, e := schedule.Cycle(s, p)
		same(t, "error of Cycle", e, api.OK)
		for k := range s.Steps {
			before, behind := s, s
			before.Steps, behind.Steps = s.Steps[:k], s.Steps[k:]
			a, e := schedule.Cycle(before, p)
			b, f := schedule.Cycle(behind, p)
			if e != api.OK || f != api.OK {
				continue
			}
			sum, e := timespan.Add(a, b)
			expect(t, named("Cycle", s, p), sum, e, whole, api.OK)
			parts++
		}
	}
	if parts < 300 {
		t.Errorf("only %d sequences with parts", parts)
	}
}

func TestAtLeastOneStrokeMayBeTheLastOne(t *testing.T) {
	for _, m := range machines() {
		for k := range m.s.Steps {
			last, _ := schedule.Last(m.s, m.p, k)
			same(t, named("Last", m.s, m.p), len(last) > 0 && slices.IsSorted(last), true)
		}
	}
}

// The rules of all layers about memory

func TestArgumentsAndResultsAreNotShared(t *testing.T) {
	s, p := ofDocument()
	times := [][]int{{240, 250}, {150}, {399}}
	for range 2 {
		slots, e := schedule.Slots(s, p)
		expect(t, "Slots", slots, e, []schedule.Slot{{span(0, 0), span(250, 300), span(250, 300)}, {span(250, 300), span(400, 450), span(500, 550)}, {span(500, 550), span(600, 950), span(600, 950)}}, api.OK)
		clear(slots[:cap(slots)])
		last, e := schedule.Last(s, p, 0)
		expect(t, "Last", last, e, []int{0, 1}, api.OK)
		clear(last[:cap(last)])
		ends, e := schedule.Run(s, p, times)
		expect(t, "Run", ends, e, []int{250, 500, 899}, api.OK)
		clear(ends[:cap(ends)])
		schedule.Cycle(s, p)
		schedule.Stroke(s, p, [2]int{1, 0})
		schedule.Busy(s, p, 1)
		schedule.Meets(s, p, 700)
	}
	kept, plant := ofDocument()
	same(t, "arguments", fmt.Sprint(s, p, times), fmt.Sprint(kept, plant, [][]int{{240, 250}, {150}, {399}}))
}
