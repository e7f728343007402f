package stroke_test

import (
	"math/rand"
	"slices"
	"testing"

	"pneumatic/api"
	"pneumatic/stroke"
)

// P13.2: Fits and Apply

// allEnds returns all lists of up to 6 ends.
func allEnds() [][]bool {
	l := [][]bool{{}}
	for first := 0; len(l) < 127; {
		last := len(l)
		for _, ends := range l[first:last] {
			l = append(l, append(slices.Clone(ends), false), append(slices.Clone(ends), true))
		}
		first = last
	}
	return l
}

// fits follows the definition.
func fits(x api.Step, ends []bool) bool {
	for _, s := range x.Strokes {
		if len(ends) < s.Actuator+1 || s.Out && ends[s.Actuator] || !s.Out && !ends[s.Actuator] {
			return false
		}
	}
	return true
}

// behind returns the ends behind a step that fits.
func behind(x api.Step, ends []bool) []bool {
	l := slices.Clone(ends)
	for i := range l {
		for _, s := range x.Strokes {
			if s.Actuator == i {
				l[i] = !l[i]
			}
		}
	}
	return l
}

func TestFitsAndApply(t *testing.T) {
	number := 0
	for _, x := range rightSteps() {
		x.Wait = 10 * len(x.Strokes)
		for _, ends := range allEnds() {
			ok, e := stroke.Fits(x, ends)
			after, f := stroke.Apply(x, ends)
			if !fits(x, ends) {
				if ok || e != api.OK || after != nil || f != api.ErrState {
					t.Errorf("%v does not fit %v, but %v %d, %v %d", x, ends, ok, e, after, f)
				}
				continue
			}
			number++
			if !ok || e != api.OK || f != api.OK || !slices.Equal(after, behind(x, ends)) {
				t.Errorf("%v fits %v, but %v %d, %v %d", x, ends, ok, e, after, f)
			}
		}
	}
	// Of n actuators with known ends, each one that is in a list moves in one way, or not.
	if number != 1*2+3*4+7*8+15*16+31*32+63*64 {
		t.Errorf("%d steps fit", number)
	}
}

func TestErrorsOfFitsAndApply(t *testing.T) {
	seven := make([]bool, 7)
	for _, x := range wrongSteps() {
		for _, ends := range [][]bool{nil, {false, false}, {true, true, true, true, true, true}, seven} {
			ok, e := stroke.Fits(x, ends)
			after, f := stroke.Apply(x, ends)
			if ok || e != stepError(x) || after != nil || f != stepError(x) {
				t.Errorf("%v: %v %d, %v %d", x, ok, e, after, f)
			}
		}
	}
	for _, x := range []struct {
		step api.Step
		ends []bool
		e, f api.Errno
	}{
		{step(0, out(0)), nil, api.OK, api.ErrState}, {step(0, out(0)), []bool{true}, api.OK, api.ErrState}, {step(0, in(0)), []bool{false}, api.OK, api.ErrState}, {step(0, out(1)), []bool{false}, api.OK, api.ErrState}, {step(0, out(0), out(1)), []bool{false, true}, api.OK, api.ErrState}, {step(0, out(0), out(1)), []bool{true, false}, api.OK, api.ErrState},
		{step(0, out(0)), seven, api.ErrMany, api.ErrMany}, {step(0, in(0)), seven, api.ErrMany, api.ErrMany}, {step(0, out(0)), make([]bool, 100000), api.ErrMany, api.ErrMany}, {step(1000001, out(0)), seven, api.ErrRange, api.ErrRange},
	} {
		ok, e := stroke.Fits(x.step, x.ends)
		expect(t, "Fits", ok, e, false, x.e)
		l, f := stroke.Apply(x.step, x.ends)
		expect(t, "Apply", l, f, []bool{}, x.f)
	}
	l, e := stroke.Apply(step(200, out(0), in(1)), []bool{false, true})
	expect(t, "Apply", l, e, []bool{true, false}, api.OK)
	l, e = stroke.Apply(step(0, out(5)), make([]bool, 6))
	expect(t, "Apply", l, e, []bool{false, false, false, false, false, true}, api.OK)
	l, e = stroke.Apply(step(0, in(1)), []bool{true, true, true})
	expect(t, "Apply", l, e, []bool{true, false, true}, api.OK)
}

// P13.3

func TestTextsAreReadBack(t *testing.T) {
	r := rand.New(rand.NewSource(133))
	right := rightSteps()
	for range 5000 {
		var l []api.Step
		for range r.Intn(65) {
			x := right[r.Intn(len(right))]
			x.Wait = []int{0, 0, 1, 1000000, r.Intn(1000001)}[r.Intn(5)]
			l = append(l, x)
		}
		text, e := stroke.Format(l)
		same(t, "error of Format", e, api.OK)
		read, at, e := stroke.Parse(text)
		expect(t, "Parse "+text, read, e, l, api.OK)
		same(t, "offset of Parse", at, 0)
		same(t, "Same", slices.EqualFunc(read, l, stroke.Same), true)
		again, e := stroke.Format(read)
		expect(t, "Format", again, e, text, api.OK)
	}
	for _, x := range right {
		for _, s := range x.Strokes {
			text, _ := stroke.Text(s)
			read, _, e := stroke.Parse(text)
			expect(t, "Parse "+text, read, e, []api.Step{step(0, s)}, api.OK)
		}
	}
}

// opposite returns the step of the opposite strokes.
func opposite(t *testing.T, x api.Step) api.Step {
	y := api.Step{Wait: x.Wait}
	for _, s := range x.Strokes {
		o, e := stroke.Opposite(s)
		same(t, "error of Opposite", e, api.OK)
		back, e := stroke.Opposite(o)
		expect(t, "Opposite", back, e, s, api.OK)
		y.Strokes = append(y.Strokes, o)
	}
	return y
}

func TestOppositeStrokesLeadBack(t *testing.T) {
	for _, x := range rightSteps() {
		y := opposite(t, x)
		for _, ends := range allEnds() {
			// Behind x, if its actuators are there, they are where it goes to; so y fits there, if x fits before.
			ok, _ := stroke.Fits(x, ends)
			after := slices.Clone(ends)
			for _, s := range x.Strokes {
				if s.Actuator < len(after) {
					after[s.Actuator] = !after[s.Actuator]
				}
			}
			back, _ := stroke.Fits(y, after)
			same(t, named("Fits", x, ends), back, ok)
			if !ok {
				continue
			}
			l, _ := stroke.Apply(x, ends)
			again, e := stroke.Apply(y, l)
			if !slices.Equal(l, after) || !slices.Equal(again, ends) || e != api.OK {
				t.Errorf("%v from %v leads to %v, and back to %v", x, ends, l, again)
			}
			if fits, _ := stroke.Fits(x, l); fits {
				t.Errorf("%v fits behind itself", x)
			}
		}
	}
}

// The rules of all layers about memory

func TestArgumentsAndResultsAreNotShared(t *testing.T) {
	ends := make([]bool, 2, 8)
	x, y := step(200, out(0), out(1)), step(0, in(0))
	l := []api.Step{x, y}
	for range 2 {
		after, e := stroke.Apply(x, ends)
		expect(t, "Apply", after, e, []bool{true, true}, api.OK)
		for i := range after[:cap(after)] {
			after[:cap(after)][i] = true
		}
		text, e := stroke.Format(l)
		expect(t, "Format", text, e, "A+ B+ 200; A-", api.OK)
		read, _, e := stroke.Parse(text)
		expect(t, "Parse", read, e, l, api.OK)
		// What is written to one step, and behind its end, is seen in no other one.
		first := read[0].Strokes[:cap(read[0].Strokes)]
		for i := range first {
			first[i] = in(9)
		}
		expect(t, "second step", read[1], api.OK, y, api.OK)
		clear(read[1].Strokes)
		stroke.Has(x, 1)
		stroke.Fits(x, ends)
	}
	same(t, "argument", slices.Equal(ends[:8], make([]bool, 8)), true)
	expect(t, "argument", l, api.OK, []api.Step{step(200, out(0), out(1)), step(0, in(0))}, api.OK)
}
