package schedule

import (
	"iter"

	"pneumatic/api"
	"pneumatic/timespan"
)

// slots yields the times of the steps, one after the other. The first one that may end too late is the last thing that is yielded, with ErrLarge instead of its times.
func slots(s api.Sequence, p api.Plant) iter.Seq2[Slot, api.Errno] {
	return func(yield func(Slot, api.Errno) bool) {
		var now api.Span
		for _, step := range s.Steps {
			slot, e := slotAt(now, step, p)
			if !yield(slot, e) || e != api.OK {
				return
			}
			now = slot.End
		}
	}
}

// slotAt returns the times of a step that begins within a span, or ErrLarge.
func slotAt(begin api.Span, step api.Step, p api.Plant) (Slot, api.Errno) {
	moved, e := timespan.Add(begin, latest(spansIn(step, p), laterSpan))
	if e != api.OK {
		return Slot{}, e
	}
	end, e := timespan.Add(moved, api.Span{Low: step.Wait, High: step.Wait})
	if e != api.OK {
		return Slot{}, e
	}
	return Slot{Begin: begin, Moved: moved, End: end}, api.OK
}

// duration returns how long a step takes that was checked.
func duration(step api.Step, p api.Plant) api.Span {
	slot, _ := slotAt(api.Span{}, step, p)
	return slot.End
}

// spansIn returns the spans of the strokes of a step.
func spansIn(step api.Step, p api.Plant) []api.Span {
	var l []api.Span
	for _, x := range step.Strokes {
		l = append(l, spanOf(x, p))
	}
	return l
}

// spanOf returns the span of a stroke.
func spanOf(x api.Stroke, p api.Plant) api.Span {
	return spansOf(p.Travels[x.Actuator])[sense(x)]
}

// spansOf returns the spans of both strokes, by their senses.
func spansOf(travel api.Travel) [2]api.Span {
	return [2]api.Span{travel.Out, travel.In}
}

// sense returns the place of the span of a stroke: 0 for out, 1 for in.
func sense(x api.Stroke) int {
	if x.Out {
		return 0
	}
	return 1
}

// latest returns what is the latest of at least one times, or of spans.
func latest[T any](l []T, later func(a, b T) T) T {
	found := l[0]
	for _, x := range l[1:] {
		found = later(found, x)
	}
	return found
}

// laterTime returns the later one of two times; the builtin max cannot be passed as a function.
func laterTime(a, b int) int { return max(a, b) }

// laterSpan returns the later one of two spans that were checked.
func laterSpan(a, b api.Span) api.Span {
	span, _ := timespan.Later(a, b)
	return span
}

// checkTimes returns OK for a time within each of some spans.
func checkTimes(times []int, spans []api.Span) api.Errno {
	if len(times) != len(spans) {
		return api.ErrShape
	}
	for i, span := range spans {
		if times[i] < span.Low || times[i] > span.High {
			return api.ErrRange
		}
	}
	return api.OK
}

// isIndex reports whether a list has an element with an index.
func isIndex[T any](i int, l []T) bool {
	return i >= 0 && i < len(l)
}
