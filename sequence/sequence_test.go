package sequence_test

import (
	"fmt"
	"math"
	"math/rand"
	"slices"
	"strings"
	"testing"

	"pneumatic/api"
	"pneumatic/sequence"
	"pneumatic/stroke"
)

func same[T comparable](t *testing.T, what string, got, expected T) {
	t.Helper()
	if got != expected {
		t.Errorf("%s: %v instead of %v", what, got, expected)
	}
}

// expect compares a result and an error with those that are expected. Nil and empty lists are equal.
func expect(t *testing.T, what string, got any, e api.Errno, expected any, f api.Errno) {
	t.Helper()
	same(t, what, fmt.Sprint(got), fmt.Sprint(expected))
	same(t, "error of "+what, e, f)
}

// named returns the name of a call with a sequence.
func named(function string, s api.Sequence) string {
	if text, e := stroke.Format(s.Steps); e == api.OK {
		return fmt.Sprint(function, " ", s.Actuators, ": ", text)
	}
	return fmt.Sprint(function, " ", s)
}

func out(actuator int) api.Stroke { return api.Stroke{Actuator: actuator, Out: true} }
func in(actuator int) api.Stroke  { return api.Stroke{Actuator: actuator} }

func step(strokes ...api.Stroke) api.Step { return api.Step{Strokes: strokes} }

func of(actuators int, steps ...api.Step) api.Sequence {
	return api.Sequence{Actuators: actuators, Steps: steps}
}

// lettersIn returns how many letters there are up to the last one in a text.
func lettersIn(text string) int {
	n := 0
	for i, letter := range "ABCDEF" {
		if strings.ContainsRune(text, letter) {
			n = i + 1
		}
	}
	return n
}

// read returns the sequence with the steps of a text.
func read(t *testing.T, actuators int, text string) api.Sequence {
	t.Helper()
	l, _, e := stroke.Parse(text)
	same(t, "error of "+text, e, api.OK)
	return of(actuators, l...)
}

// endsBehind returns which actuators are out behind steps, or the first error of these.
func endsBehind(actuators int, steps []api.Step) (map[int]bool, api.Errno) {
	out := map[int]bool{}
	for _, x := range steps {
		if e := stroke.CheckStep(x); e != api.OK {
			return nil, e
		}
		fits := true
		for _, s := range x.Strokes {
			if s.Actuator >= actuators {
				return nil, api.ErrNone
			}
			fits = fits && out[s.Actuator] != s.Out
			out[s.Actuator] = s.Out
		}
		if !fits {
			return nil, api.ErrState
		}
	}
	return out, api.OK
}

// sequenceError follows the definition.
func sequenceError(s api.Sequence) api.Errno {
	switch {
	case s.Actuators <= 0 || s.Actuators > 6:
		return api.ErrRange
	case len(s.Steps) == 0:
		return api.ErrEmpty
	case len(s.Steps) > 64:
		return api.ErrMany
	}
	out, e := endsBehind(s.Actuators, s.Steps)
	if e != api.OK {
		return e
	}
	for _, isOut := range out {
		if isOut {
			return api.ErrOrder
		}
	}
	if len(out) < s.Actuators {
		return api.ErrEmpty
	}
	return api.OK
}

// shortSequences returns all sequences of up to so many of some steps, with several numbers of actuators.
func shortSequences(most int, steps ...api.Step) []api.Sequence {
	lists := [][]api.Step{nil}
	for first := 0; most > 0; most-- {
		last := len(lists)
		for _, l := range lists[first:last] {
			for _, x := range steps {
				lists = append(lists, append(slices.Clone(l), x))
			}
		}
		first = last
	}
	var all []api.Sequence
	for _, l := range lists {
		for _, actuators := range []int{2, 1, 3, 0, 7} {
			all = append(all, of(actuators, l...))
		}
	}
	return all
}

// randomSequence returns one that can be carried out.
func randomSequence(r *rand.Rand) api.Sequence {
	n, most := 1+r.Intn(6), 1+r.Intn(62)
	s := of(n)
	isOut := make([]bool, n)
	move := func(moves func(actuator int) bool) {
		var x api.Step
		for actuator := range n {
			if moves(actuator) {
				isOut[actuator] = !isOut[actuator]
				x.Strokes = append(x.Strokes, api.Stroke{Actuator: actuator, Out: isOut[actuator]})
			}
		}
		if r.Intn(4) == 0 {
			x.Wait = r.Intn(1000001)
		}
		if len(x.Strokes) > 0 {
			s.Steps = append(s.Steps, x)
		}
	}
	dense := 1 + r.Intn(4)
	moved := make([]bool, n)
	for range most {
		move(func(actuator int) bool {
			chosen := r.Intn(4) < dense
			moved[actuator] = moved[actuator] || chosen
			return chosen
		})
	}
	move(func(actuator int) bool { return !moved[actuator] })
	move(func(actuator int) bool { return isOut[actuator] })
	return s
}

// sequences returns all short sequences of two actuators, and random ones, with and without errors.
func sequences() []api.Sequence {
	l := shortSequences(4, step(out(0)), step(in(0)), step(out(1)), step(in(1)), step(out(0), out(1)), step(out(0), in(1)), step(in(0), out(1)), step(in(0), in(1)))
	l = append(l, shortSequences(3, step(out(0)), step(in(0)), step(out(1)), step(in(1)), step(), step(out(2)), step(in(2)), step(in(6)), step(out(1), out(0)), step(out(0), in(0)), step(out(0), out(2)), api.Step{Strokes: []api.Stroke{out(0)}, Wait: -1}, api.Step{Strokes: []api.Stroke{in(0)}, Wait: 1000001}, step(make([]api.Stroke, 7)...))...)
	r := rand.New(rand.NewSource(141))
	for range 500 {
		s := randomSequence(r)
		l = append(l, s, changed(s, r), changed(s, r))
	}
	return l
}

// changed returns a sequence with a change, which may have an error.
func changed(s api.Sequence, r *rand.Rand) api.Sequence {
	s = of(s.Actuators, slices.Clone(s.Steps)...)
	k := r.Intn(len(s.Steps))
	switch r.Intn(6) {
	case 0:
		s.Actuators += []int{1, -1, 6, -6}[r.Intn(4)]
	case 1:
		s.Steps = slices.Delete(s.Steps, k, k+1)
	case 2:
		s.Steps = slices.Insert(s.Steps, k, s.Steps[r.Intn(len(s.Steps))])
	case 3:
		i := r.Intn(len(s.Steps))
		s.Steps[i], s.Steps[k] = s.Steps[k], s.Steps[i]
	case 4:
		s.Steps[k].Strokes = slices.Clone(s.Steps[k].Strokes)
		x := &s.Steps[k].Strokes[r.Intn(len(s.Steps[k].Strokes))]
		x.Actuator += r.Intn(3) - 1
		x.Out = r.Intn(2) == 0
	case 5:
		s.Steps[k].Wait = []int{-1, 0, 1000000, 1000001}[r.Intn(4)]
	}
	return s
}

// rightSequences returns those of sequences that can be carried out.
func rightSequences() []api.Sequence {
	return slices.DeleteFunc(sequences(), func(s api.Sequence) bool { return sequenceError(s) != api.OK })
}

// P14.1

func TestCheck(t *testing.T) {
	seen := map[api.Errno]int{}
	for _, s := range sequences() {
		expected := sequenceError(s)
		seen[expected]++
		if e := sequence.Check(s); e != expected {
			t.Errorf("%s: %d instead of %d", named("Check", s), e, expected)
		}
	}
	for _, e := range []api.Errno{api.OK, api.ErrRange, api.ErrEmpty, api.ErrMany, api.ErrNone, api.ErrState, api.ErrOrder, api.ErrTwice} {
		if seen[e] < 30 {
			t.Errorf("only %d sequences with the error %d", seen[e], e)
		}
	}
}

// turns returns A+; A- so many times.
func turns(n int) []api.Step {
	return slices.Repeat([]api.Step{step(out(0)), step(in(0))}, n)
}

func TestErrorsOfCheck(t *testing.T) {
	for _, x := range []struct {
		s api.Sequence
		e api.Errno
	}{
		{of(0), api.ErrRange}, {of(7), api.ErrRange}, {of(-1, turns(1)...), api.ErrRange}, {of(0, turns(1)...), api.ErrRange}, {of(7, turns(1)...), api.ErrRange}, {of(math.MinInt, turns(1)...), api.ErrRange}, {of(math.MaxInt, turns(1)...), api.ErrRange}, {of(api.None), api.ErrRange}, {of(7, turns(33)...), api.ErrRange},
		{of(1), api.ErrEmpty}, {of(6, []api.Step{}...), api.ErrEmpty}, {of(1, turns(1)...), api.OK}, {of(1, turns(32)...), api.OK}, {of(1, turns(33)...), api.ErrMany}, {of(1, append(turns(32), step())...), api.ErrMany}, {of(2, append(turns(32), step(out(1)))...), api.ErrMany}, {of(1, make([]api.Step, 64)...), api.ErrEmpty}, {of(1, make([]api.Step, 65)...), api.ErrMany}, {of(1, turns(50000)...), api.ErrMany},
		// The first step with an error counts, and of it the first error.
		{of(1, step(out(0)), step(), step(out(6))), api.ErrEmpty}, {of(1, step(out(6))), api.ErrRange}, {of(1, step(out(0)), step(out(1), in(1))), api.ErrTwice}, {of(1, step(out(0)), step(out(2), out(1))), api.ErrOrder}, {of(1, step(out(0), out(6))), api.ErrRange}, {of(1, api.Step{Strokes: []api.Stroke{in(1)}, Wait: -1}), api.ErrRange},
		{of(1, step(out(1))), api.ErrNone}, {of(1, step(in(1))), api.ErrNone}, {of(1, step(in(0), out(1))), api.ErrNone}, {of(5, step(out(0), out(5))), api.ErrNone}, {of(6, step(out(0), out(5))), api.ErrOrder}, {of(1, step(in(0)), step(out(1))), api.ErrState}, {of(1, step(out(1)), step(in(0))), api.ErrNone}, {of(1, step(in(0)), step()), api.ErrState},
		{of(1, step(in(0))), api.ErrState}, {of(1, step(out(0)), step(out(0))), api.ErrState}, {of(2, step(out(0)), step(in(1))), api.ErrState}, {of(2, step(out(0)), step(in(0), in(1))), api.ErrState}, {of(2, step(out(0)), step(out(0), out(1))), api.ErrState}, {of(1, step(out(0)), step(in(0)), step(in(0))), api.ErrState}, {of(1, append(turns(31), step(out(0)), step(out(0)))...), api.ErrState},
		{of(1, step(out(0))), api.ErrOrder}, {of(2, step(out(0))), api.ErrOrder}, {of(2, step(out(0)), step(out(1)), step(in(0))), api.ErrOrder}, {of(6, step(out(5))), api.ErrOrder}, {of(1, append(turns(31), step(out(0)))...), api.ErrOrder},
		{of(2, turns(1)...), api.ErrEmpty}, {of(6, turns(32)...), api.ErrEmpty}, {of(2, step(out(1)), step(in(1))), api.ErrEmpty}, {of(3, step(out(0), out(2)), step(in(0), in(2))), api.ErrEmpty}, {of(3, step(out(0), out(1)), step(in(0), in(1))), api.ErrEmpty},
		{read(t, 2, "A+; B+; B-; A-"), api.OK}, {read(t, 2, "A+; B+; A-"), api.ErrOrder}, {read(t, 2, "A+; B-"), api.ErrState}, {read(t, 3, "A+; B+; B-; A-"), api.ErrEmpty}, {read(t, 1, "A+; B+; B-; A-"), api.ErrNone}, {read(t, 6, "A+ B+ C+ D+ E+ F+; A- B- C- D- E- F- 1000000"), api.OK},
	} {
		same(t, named("Check", x.s), sequence.Check(x.s), x.e)
	}
}

func TestErrorsOfAllFunctions(t *testing.T) {
	for _, s := range sequences() {
		f := sequenceError(s)
		if f == api.OK {
			continue
		}
		var got []any
		for _, k := range []int{0, -1} {
			ends, e := sequence.Ends(s, k)
			moves, d := sequence.Moves(s, k)
			got = append(got, ends, e, moves, d)
		}
		word, e1 := sequence.Word(s)
		words, e2 := sequence.Words(s)
		accepts, e3 := sequence.Accepts(s, nil)
		text, e4 := sequence.Text(s)
		repeats, e5 := sequence.Repeats(s)
		got = append(got, word, e1, words, e2, accepts, e3, text, e4, repeats, e5)
		none := []int{}
		expected := []any{none, f, none, f, none, f, none, f, none, f, 0, f, false, f, "", f, none, f}
		if fmt.Sprint(got) != fmt.Sprint(expected) {
			t.Errorf("%s: %v instead of %v", named("error of", s), got, expected)
		}
	}
}

// endsOf returns the ends behind the first k steps of a sequence that can be carried out.
func endsOf(s api.Sequence, k int) []bool {
	out, _ := endsBehind(s.Actuators, s.Steps[:k])
	var l []bool
	for actuator := range s.Actuators {
		l = append(l, out[actuator])
	}
	return l
}

func TestEnds(t *testing.T) {
	for _, s := range rightSequences() {
		for k := range len(s.Steps) + 1 {
			l, e := sequence.Ends(s, k)
			if !slices.Equal(l, endsOf(s, k)) || e != api.OK {
				t.Errorf("%s behind %d: %v and %d", named("Ends", s), k, l, e)
			}
		}
		for _, k := range []int{-1, len(s.Steps) + 1, 65, api.None, math.MinInt, math.MaxInt} {
			l, e := sequence.Ends(s, k)
			if len(l) > 0 || e != api.ErrRange {
				t.Errorf("%s behind %d: %v and %d", named("Ends", s), k, l, e)
			}
		}
	}
	s := read(t, 3, "A+; B+ C+; A- B-; C-")
	for k, expected := range [][]bool{{false, false, false}, {true, false, false}, {true, true, true}, {false, false, true}, {false, false, false}} {
		l, e := sequence.Ends(s, k)
		expect(t, "Ends", l, e, expected, api.OK)
	}
	l, e := sequence.Ends(s, 5)
	expect(t, "Ends", l, e, []bool{}, api.ErrRange)
	l, e = sequence.Ends(s, -1)
	expect(t, "Ends", l, e, []bool{}, api.ErrRange)
}

// wordsOf returns all words of some steps.
func wordsOf(steps []api.Step) [][]api.Stroke {
	if len(steps) == 0 {
		return [][]api.Stroke{nil}
	}
	var l [][]api.Stroke
	if len(steps[0].Strokes) == 0 {
		return wordsOf(steps[1:])
	}
	for i, first := range steps[0].Strokes {
		rest := step(slices.Delete(slices.Clone(steps[0].Strokes), i, i+1)...)
		for _, word := range wordsOf(append([]api.Step{rest}, steps[1:]...)) {
			l = append(l, append([]api.Stroke{first}, word...))
		}
	}
	return l
}

func TestWordAndWords(t *testing.T) {
	for _, s := range rightSequences() {
		var expected []api.Stroke
		for _, x := range s.Steps {
			for _, y := range x.Strokes {
				expected = append(expected, y)
			}
		}
		word, e := sequence.Word(s)
		if !slices.Equal(word, expected) || e != api.OK {
			t.Errorf("%s: %v and %d", named("Word", s), word, e)
		}
		number := 1.0
		for _, x := range s.Steps {
			number *= []float64{1, 1, 2, 6, 24, 120, 720}[len(x.Strokes)]
		}
		n, e := sequence.Words(s)
		if number > 1<<20 {
			expect(t, named("Words", s), n, e, 0, api.ErrLimit)
		} else {
			expect(t, named("Words", s), n, e, int(number), api.OK)
		}
		if number < 500 && len(expected) < 12 {
			same(t, named("number of words of", s), len(wordsOf(s.Steps)), int(number))
		}
	}
}

func TestLimitOfWords(t *testing.T) {
	both := "A+ B+; A- B-"
	all := "A+ B+ C+ D+ E+ F+; A- B- C- D- E- F-"
	repeated := func(text string, n int) string {
		l := text
		for range n - 1 {
			l += "; " + text
		}
		return l
	}
	for _, x := range []struct {
		s     api.Sequence
		words int
		e     api.Errno
	}{
		{of(1, turns(32)...), 1, api.OK}, {read(t, 2, both), 4, api.OK}, {read(t, 2, repeated(both, 10)), 1 << 20, api.OK}, {read(t, 2, repeated(both, 10)+"; A+; A-; B+; B-"), 1 << 20, api.OK}, {read(t, 2, repeated(both, 10)+"; A+ B+; A-; B-"), 0, api.ErrLimit}, {read(t, 2, repeated(both, 32)), 0, api.ErrLimit},
		{read(t, 6, all), 518400, api.OK}, {read(t, 6, all+"; A+ B+; A-; B-"), 1036800, api.OK}, {read(t, 6, all+"; A+ B+; A- B-"), 0, api.ErrLimit}, {read(t, 6, repeated(all, 32)), 0, api.ErrLimit},
		{read(t, 3, "A+ B+ C+; A- B- C-"), 36, api.OK}, {read(t, 4, "A+ B+ C+ D+; A- B- C-; D-"), 144, api.OK}, {read(t, 5, "A+ B+ C+ D+ E+; A- B-; C- D- E-"), 1440, api.OK},
	} {
		n, e := sequence.Words(x.s)
		expect(t, named("Words", x.s), n, e, x.words, x.e)
		word, e := sequence.Word(x.s)
		ok, f := sequence.Accepts(x.s, word)
		expect(t, named("Accepts", x.s), ok, e, true, f)
	}
}

func TestSame(t *testing.T) {
	a := read(t, 2, "A+; B+; B-; A- 5")
	different := []api.Sequence{
		read(t, 3, "A+; B+; B-; A- 5"), read(t, 2, "A+; B+; B-; A-"), read(t, 2, "A+; B+; B-; A- 6"), read(t, 2, "A+; B+; B-"), read(t, 2, "A+; B+; B-; A- 5; A+"), read(t, 2, "A+; B+; A- B- 5"), read(t, 2, "B+; A+; B-; A- 5"), read(t, 2, "A+ B+; B-; A- 5"), read(t, 2, "A+; B+; B+; A- 5"), read(t, 2, "A+; B+; B-; B- 5"),
		{}, of(1), of(-5), of(1, step()), of(1, step(), step()), of(1, step(out(9))), of(1, step(in(9))), of(1, step(out(0), in(0))), of(1, step(in(0), out(0))), of(1, turns(40)...), of(1, turns(41)...),
	}
	for i, b := range append(different, a) {
		for k, c := range append(different, read(t, 2, "A+; B+; B-; A- 5")) {
			same(t, named("Same", b)+named(" and", c), sequence.Same(b, c), i == k)
		}
	}
	same(t, "Same", sequence.Same(api.Sequence{Steps: []api.Step{}}, api.Sequence{}), true)
	same(t, "Same", sequence.Same(of(1, api.Step{Strokes: []api.Stroke{}}), of(1, api.Step{})), true)
}
