package stroke_test

import (
	"fmt"
	"math"
	"slices"
	"testing"

	"pneumatic/api"
	"pneumatic/stroke"
)

func same[T comparable](t *testing.T, what string, got, expected T) {
	t.Helper()
	if got != expected {
		t.Errorf("%s: %v instead of %v", what, got, expected)
	}
}

// expect compares a result and an error with those that are expected. Nil and empty lists are equal.
func expect(t *testing.T, what string, got any, e api.Errno, expected any, f api.Errno) {
	t.Helper()
	same(t, what, fmt.Sprint(got), fmt.Sprint(expected))
	same(t, "error of "+what, e, f)
}

func named(function string, arguments ...any) string {
	return function + " " + fmt.Sprint(arguments...)
}

func out(actuator int) api.Stroke { return api.Stroke{Actuator: actuator, Out: true} }
func in(actuator int) api.Stroke  { return api.Stroke{Actuator: actuator} }

func step(wait int, strokes ...api.Stroke) api.Step {
	return api.Step{Strokes: strokes, Wait: wait}
}

// actuators has right ones, and others.
func actuators() []int {
	return []int{0, 1, 2, 3, 4, 5, -1, 6, 7, 26, 32, 256, 65536, api.None, math.MinInt, math.MaxInt}
}

// waits has right ones, and others.
func waits() []int {
	return []int{0, 1, 9, 10, 250, 999999, 1000000, -1, 1000001, 10000000, api.None, math.MinInt, math.MaxInt}
}

// strokeError follows the definition.
func strokeError(x api.Stroke) api.Errno {
	for actuator := range 6 {
		if x.Actuator == actuator {
			return api.OK
		}
	}
	return api.ErrRange
}

// stepError follows the definition.
func stepError(x api.Step) api.Errno {
	switch n := len(x.Strokes); {
	case n == 0:
		return api.ErrEmpty
	case n > 6:
		return api.ErrMany
	}
	before := -1
	for _, s := range x.Strokes {
		if e := strokeError(s); e != api.OK {
			return e
		}
		if s.Actuator <= before {
			return map[bool]api.Errno{true: api.ErrTwice, false: api.ErrOrder}[s.Actuator == before]
		}
		before = s.Actuator
	}
	if x.Wait < 0 || x.Wait > 1000000 {
		return api.ErrRange
	}
	return api.OK
}

// rightSteps returns all steps that do not wait.
func rightSteps() []api.Step {
	l := []api.Step{{}}
	for actuator := range 6 {
		for _, x := range slices.Clone(l) {
			for _, s := range []api.Stroke{in(actuator), out(actuator)} {
				l = append(l, step(0, append(slices.Clone(x.Strokes), s)...))
			}
		}
	}
	return l[1:]
}

// wrongSteps returns all steps of up to 3 of some strokes that have an error, and further ones.
func wrongSteps() []api.Step {
	strokes := []api.Stroke{in(0), out(0), in(1), out(1), out(2), in(5), out(5), in(6), out(6), in(-1), out(-1)}
	all := []api.Step{{}}
	for first := 0; len(all) < 1400; {
		last := len(all)
		for _, x := range all[first:last] {
			for _, s := range strokes {
				all = append(all, step(0, append(slices.Clone(x.Strokes), s)...))
			}
		}
		first = last
	}
	six := step(0, in(0), out(1), out(2), in(3), out(4), in(5))
	all = append(all,
		step(0, append(six.Strokes, out(5))...), step(0, append(six.Strokes, out(6))...), step(-1, append(six.Strokes, in(-1))...), step(0, slices.Repeat([]api.Stroke{in(9)}, 7)...), step(0, make([]api.Stroke, 100000)...),
		step(0, in(5), in(4), in(3), in(2), in(1), in(0)), step(0, in(0), in(1), in(2), in(3), in(4), in(4)), step(0, in(0), in(1), in(2), in(3), in(4), in(3)), step(0, in(0), in(1), in(2), in(3), in(4), in(6)), step(0, in(1), in(0), in(7)), step(0, in(1), in(1), in(0)), step(0, in(0), in(2), in(1), in(1)), step(0, in(7), in(1), in(0)),
	)
	var l []api.Step
	for _, x := range all {
		for _, wait := range []int{0, 5, -1, 1000001} {
			x.Wait = wait
			if stepError(x) != api.OK {
				l = append(l, x)
			}
		}
	}
	for _, wait := range waits() {
		for _, x := range []api.Step{step(wait), step(wait, in(0)), step(wait, out(5)), step(wait, six.Strokes...), step(wait, in(6)), step(wait, out(1), in(1))} {
			if stepError(x) != api.OK {
				l = append(l, x)
			}
		}
	}
	return l
}

// P13.1

func TestCheck(t *testing.T) {
	for _, actuator := range actuators() {
		for _, x := range []api.Stroke{in(actuator), out(actuator)} {
			same(t, named("Check", x), stroke.Check(x), strokeError(x))
		}
	}
	same(t, "Check", stroke.Check(out(5)), api.OK)
	same(t, "Check", stroke.Check(out(6)), api.ErrRange)
	same(t, "Check", stroke.Check(in(-1)), api.ErrRange)
}

func TestCheckStep(t *testing.T) {
	if n := len(rightSteps()); n != 728 {
		t.Errorf("there are %d right steps", n)
	}
	for _, x := range rightSteps() {
		for _, wait := range waits() {
			x.Wait = wait
			same(t, named("CheckStep", x), stroke.CheckStep(x), stepError(x))
		}
	}
	seen := map[api.Errno]int{}
	for _, x := range wrongSteps() {
		same(t, "CheckStep", stroke.CheckStep(x), stepError(x))
		seen[stepError(x)]++
	}
	for _, e := range []api.Errno{api.ErrEmpty, api.ErrMany, api.ErrRange, api.ErrTwice, api.ErrOrder} {
		if seen[e] < 4 {
			t.Errorf("only %d steps with the error %d", seen[e], e)
		}
	}
}

func TestErrorsOfCheckStep(t *testing.T) {
	for _, x := range []struct {
		step api.Step
		e    api.Errno
	}{
		{api.Step{}, api.ErrEmpty}, {step(-1), api.ErrEmpty}, {api.Step{Strokes: []api.Stroke{}, Wait: 7}, api.ErrEmpty},
		{step(0, in(0), in(1), in(2), in(3), in(4), in(5)), api.OK}, {step(0, in(0), in(1), in(2), in(3), in(4), in(5), in(6)), api.ErrMany}, {step(-1, in(9), in(9), in(9), in(9), in(9), in(9), in(9)), api.ErrMany},
		{step(0, out(6)), api.ErrRange}, {step(0, in(-1)), api.ErrRange}, {step(0, in(0), in(7)), api.ErrRange}, {step(0, in(7), in(7)), api.ErrRange}, {step(0, in(0), in(-1)), api.ErrRange},
		{step(0, out(0), in(0)), api.ErrTwice}, {step(0, out(0), out(0)), api.ErrTwice}, {step(0, in(1), in(1), in(0)), api.ErrTwice}, {step(-1, in(1), in(1)), api.ErrTwice},
		{step(0, in(1), in(0)), api.ErrOrder}, {step(0, in(1), in(0), in(1)), api.ErrOrder}, {step(0, in(2), in(1), in(1)), api.ErrOrder}, {step(0, in(2), in(0), in(9)), api.ErrOrder}, {step(2000000, in(5), in(4)), api.ErrOrder},
		{step(0, in(0)), api.OK}, {step(1000000, in(0)), api.OK}, {step(1000001, in(0)), api.ErrRange}, {step(-1, in(0)), api.ErrRange}, {step(api.None, in(0)), api.ErrRange},
	} {
		same(t, named("CheckStep", x.step), stroke.CheckStep(x.step), x.e)
	}
}

func TestOpposite(t *testing.T) {
	for _, actuator := range actuators() {
		if f := strokeError(in(actuator)); f != api.OK {
			for _, x := range []api.Stroke{in(actuator), out(actuator)} {
				s, e := stroke.Opposite(x)
				expect(t, named("Opposite", x), s, e, api.Stroke{}, f)
			}
			continue
		}
		s, e := stroke.Opposite(in(actuator))
		expect(t, named("Opposite", in(actuator)), s, e, out(actuator), api.OK)
		s, e = stroke.Opposite(out(actuator))
		expect(t, named("Opposite", out(actuator)), s, e, in(actuator), api.OK)
	}
}

func TestText(t *testing.T) {
	for actuator, letter := range map[int]string{0: "A", 1: "B", 2: "C", 3: "D", 4: "E", 5: "F"} {
		s, e := stroke.Text(out(actuator))
		expect(t, "Text", s, e, letter+"+", api.OK)
		s, e = stroke.Text(in(actuator))
		expect(t, "Text", s, e, letter+"-", api.OK)
	}
	for _, actuator := range actuators()[6:] {
		for _, x := range []api.Stroke{in(actuator), out(actuator)} {
			s, e := stroke.Text(x)
			expect(t, named("Text", x), s, e, "", api.ErrRange)
		}
	}
}

func TestHas(t *testing.T) {
	for _, x := range rightSteps() {
		x.Wait = len(x.Strokes)
		for _, actuator := range actuators() {
			expected, f := 0, strokeError(in(actuator))
			for _, s := range x.Strokes {
				if s == in(actuator) {
					expected = -1
				} else if s == out(actuator) {
					expected = 1
				}
			}
			k, e := stroke.Has(x, actuator)
			expect(t, named("Has", x, actuator), k, e, expected, f)
		}
	}
	for _, x := range wrongSteps() {
		for _, actuator := range []int{0, 1, 5, 6, -1} {
			k, e := stroke.Has(x, actuator)
			if k != 0 || e != stepError(x) {
				t.Errorf("Has %v %d: %d and %d", x, actuator, k, e)
			}
		}
	}
	k, e := stroke.Has(step(0, out(0), in(1)), 1)
	expect(t, "Has", k, e, -1, api.OK)
	k, e = stroke.Has(step(0, out(0), in(1)), 2)
	expect(t, "Has", k, e, 0, api.OK)
	k, e = stroke.Has(step(0, out(0), in(1)), 6)
	expect(t, "Has", k, e, 0, api.ErrRange)
}

func TestSame(t *testing.T) {
	l := []api.Step{
		step(0), step(1), step(-1), step(0, in(0)), step(1, in(0)), step(0, out(0)), step(0, in(1)), step(0, in(0), in(1)), step(0, in(1), in(0)), step(0, in(0), in(0)), step(0, in(0), out(1)), step(5, in(0), out(1)), step(0, in(9)), step(0, out(9)), step(0, in(-9)), step(api.None, in(-9)), step(0, make([]api.Stroke, 7)...), step(0, make([]api.Stroke, 8)...),
	}
	for i, a := range l {
		for k, b := range l {
			b.Strokes = slices.Clone(b.Strokes)
			same(t, named("Same", a, b), stroke.Same(a, b), i == k)
		}
	}
	same(t, "Same", stroke.Same(api.Step{Wait: 3}, api.Step{Strokes: []api.Stroke{}, Wait: 3}), true)
}
