package sequence_test

import (
	"slices"
	"testing"

	"pneumatic/api"
	"pneumatic/sequence"
	"pneumatic/stroke"
)

// P14.3

func TestCyclesEndWhereTheyBegin(t *testing.T) {
	for _, s := range rightSequences() {
		first, e := sequence.Ends(s, 0)
		same(t, "error of Ends", e, api.OK)
		last, e := sequence.Ends(s, len(s.Steps))
		expect(t, named("Ends", s), last, e, first, api.OK)
		same(t, named("Ends", s), slices.Contains(first, true), false)
		same(t, named("Ends", s), len(first), s.Actuators)
		// So the cycle may begin again, as often as one likes.
		twice := of(s.Actuators, append(slices.Clone(s.Steps), s.Steps...)...)
		if e := sequence.Check(twice); e != api.OK && len(twice.Steps) <= 64 {
			t.Errorf("%s: %d", named("Check", twice), e)
		}
	}
}

func TestStepsLeadFromEndsToEnds(t *testing.T) {
	for _, s := range rightSequences() {
		for k, x := range s.Steps {
			before, _ := sequence.Ends(s, k)
			after, _ := sequence.Ends(s, k+1)
			l, e := stroke.Apply(x, before)
			if !slices.Equal(l, after) || e != api.OK {
				t.Errorf("%s: from %v to %v by step %d", named("Ends", s), before, after, k)
			}
		}
	}
}

func TestActuatorsMoveOutAndInByTurns(t *testing.T) {
	for _, s := range rightSequences() {
		strokes := 0
		for actuator := range s.Actuators {
			l, _ := sequence.Moves(s, actuator)
			same(t, named("number of Moves", s), len(l) > 0 && len(l)%2 == 0, true)
			for i, k := range l {
				sense, _ := stroke.Has(s.Steps[k], actuator)
				same(t, named("Moves", s), sense, 1-2*(i%2))
			}
			strokes += len(l)
		}
		word, _ := sequence.Word(s)
		same(t, named("length of Word", s), len(word), strokes)
	}
}

func TestExchangedStrokes(t *testing.T) {
	accepted := 0
	for _, s := range rightSequences() {
		word, _ := sequence.Word(s)
		ok, e := sequence.Accepts(s, word)
		expect(t, named("Accepts", s), ok, e, true, api.OK)
		// stepOf has the index of the step of each stroke.
		var stepOf []int
		for k, x := range s.Steps {
			stepOf = append(stepOf, slices.Repeat([]int{k}, len(x.Strokes))...)
		}
		for i := range word {
			for k := i + 1; k < len(word) && (k == i+1 || stepOf[i] == stepOf[k]); k++ {
				other := slices.Clone(word)
				other[i], other[k] = other[k], other[i]
				ok, e := sequence.Accepts(s, other)
				if ok != (stepOf[i] == stepOf[k]) || e != api.OK {
					t.Errorf("%s: %v %d with strokes %d and %d exchanged", named("Accepts", s), ok, e, i, k)
				}
				if ok {
					accepted++
				}
			}
		}
	}
	if accepted < 1000 {
		t.Errorf("only %d words are accepted", accepted)
	}
}

func TestTextsAreReadBack(t *testing.T) {
	for _, s := range rightSequences() {
		text, e := sequence.Text(s)
		same(t, named("error of Text", s), e, api.OK)
		read, at, e := sequence.Parse(text)
		expect(t, "Parse "+text, read, e, s, api.OK)
		same(t, "offset of Parse "+text, at, 0)
		same(t, "Same "+text, sequence.Same(read, s), true)
		again, e := sequence.Text(read)
		expect(t, "Text", again, e, text, api.OK)
	}
}

// The rules of all layers about memory

func TestArgumentsAndResultsAreNotShared(t *testing.T) {
	s, kept := read(t, 2, "A+ B+ 5; A-; A+; A- B-"), read(t, 2, "A+ B+ 5; A-; A+; A- B-")
	word := []api.Stroke{out(1), out(0), in(0), out(0), in(1), in(0)}
	keptWord := slices.Clone(word)
	for range 2 {
		for k, expected := range [][]bool{{false, false}, {true, true}, {false, true}} {
			ends, e := sequence.Ends(s, k)
			expect(t, "Ends", ends, e, expected, api.OK)
			for i := range ends[:cap(ends)] {
				ends[:cap(ends)][i] = !ends[:cap(ends)][i]
			}
		}
		first, e := sequence.Word(s)
		expect(t, "Word", first, e, []api.Stroke{out(0), out(1), in(0), out(0), in(0), in(1)}, api.OK)
		clear(first[:cap(first)])
		moves, e := sequence.Moves(s, 0)
		expect(t, "Moves", moves, e, []int{0, 1, 2, 3}, api.OK)
		clear(moves[:cap(moves)])
		repeats, e := sequence.Repeats(s)
		expect(t, "Repeats", repeats, e, []int{3}, api.OK)
		clear(repeats[:cap(repeats)])
		ok, e := sequence.Accepts(s, word)
		expect(t, "Accepts", ok, e, true, api.OK)
		text, e := sequence.Text(s)
		expect(t, "Text", text, e, "A+ B+ 5; A-; A+; A- B-", api.OK)
		sequence.Words(s)
		again, _, e := sequence.Parse(text)
		expect(t, "Parse", again, e, kept, api.OK)
		for _, x := range again.Steps {
			clear(x.Strokes[:cap(x.Strokes)])
		}
	}
	expect(t, "argument", s, api.OK, kept, api.OK)
	expect(t, "argument", word, api.OK, keptWord, api.OK)
}

func TestTheFirstWordOfOneStepIsNewMemory(t *testing.T) {
	// A word is not a part of the first step, even if this has room behind it.
	first := step(make([]api.Stroke, 1, 8)...)
	first.Strokes[0] = out(0)
	s := of(1, first, step(in(0)))
	word, _ := sequence.Word(s)
	clear(word[:cap(word)])
	expect(t, "argument", s, api.OK, of(1, step(out(0)), step(in(0))), api.OK)
	same(t, "room", first.Strokes[:2][1], api.Stroke{})
}
