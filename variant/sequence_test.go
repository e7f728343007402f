package variant_test

import (
	"fmt"
	"math"
	"math/rand"
	"slices"
	"strings"
	"testing"

	"pneumatic/api"
	"pneumatic/sequence"
	"pneumatic/stroke"
)

func same[T comparable](t *testing.T, what string, got, expected T) {
	t.Helper()
	if got != expected {
		t.Errorf("%s: %v instead of %v", what, got, expected)
	}
}

// expect compares a result and an error with those that are expected. Nil and empty lists are equal.
func expect(t *testing.T, what string, got any, e api.Errno, expected any, f api.Errno) {
	t.Helper()
	same(t, what, fmt.Sprint(got), fmt.Sprint(expected))
	same(t, "error of "+what, e, f)
}

// named returns the name of a call with a sequence and another argument.
func named(function string, s api.Sequence, other any) string {
	text, _ := stroke.Format(s.Steps)
	return fmt.Sprint(function, " ", s.Actuators, ": ", text, ", ", other)
}

// read returns the sequence with a text.
func read(text string) api.Sequence {
	s, _, e := sequence.Parse(text)
	if e != api.OK {
		panic(text)
	}
	return s
}

// textOf returns the text of a sequence that can be carried out.
func textOf(t *testing.T, s api.Sequence) string {
	t.Helper()
	text, e := sequence.Text(s)
	same(t, "error of Text", e, api.OK)
	return text
}

// sense returns 1 if an actuator goes out in a step, -1 if it goes in, and 0 if it does not move.
func sense(x api.Step, actuator int) int {
	switch {
	case slices.Contains(x.Strokes, api.Stroke{Actuator: actuator, Out: true}):
		return 1
	case slices.Contains(x.Strokes, api.Stroke{Actuator: actuator}):
		return -1
	}
	return 0
}

// withSenses returns the step in which actuators move by a list of senses.
func withSenses(wait int, senses ...int) api.Step {
	x := api.Step{Wait: wait}
	for actuator, n := range senses {
		if n != 0 {
			x.Strokes = append(x.Strokes, api.Stroke{Actuator: actuator, Out: n > 0})
		}
	}
	return x
}

// senses returns for each step how each actuator moves in it.
func senses(s api.Sequence) [][]int {
	var l [][]int
	for _, x := range s.Steps {
		row := make([]int, s.Actuators)
		for actuator := range row {
			row[actuator] = sense(x, actuator)
		}
		l = append(l, row)
	}
	return l
}

// pausesOf returns the steps before which each actuator went in as often as out.
func pausesOf(s api.Sequence) []int {
	var l []int
	for k := range s.Steps {
		sums := make([]int, s.Actuators)
		for _, row := range senses(s)[:k] {
			for actuator, n := range row {
				sums[actuator] += n
			}
		}
		if !slices.Contains(sums, 1) {
			l = append(l, k)
		}
	}
	return l
}

// lists returns all lists of so many elements from first to last.
func lists(n, first, last int) [][]int {
	all := [][]int{nil}
	for range n {
		var longer [][]int
		for _, l := range all {
			for k := first; k <= last; k++ {
				longer = append(longer, append(slices.Clone(l), k))
			}
		}
		all = longer
	}
	return all
}

// renamings returns all renamings of n actuators.
func renamings(n int) [][]int {
	return slices.DeleteFunc(lists(n, 0, n-1), func(to []int) bool {
		sorted := slices.Clone(to)
		slices.Sort(sorted)
		return len(slices.Compact(sorted)) < n
	})
}

// someRenamings returns all renamings of up to 3 actuators, and some of more.
func someRenamings(r *rand.Rand, n int) [][]int {
	if n <= 3 {
		return renamings(n)
	}
	var l [][]int
	for range 4 {
		l = append(l, r.Perm(n))
	}
	return l
}

// shortSequences returns all sequences of up to so many actuators with up to so many steps, which wait in some of them.
func shortSequences(actuators, most int) []api.Sequence {
	var all []api.Sequence
	var extend func(s api.Sequence, isOut []bool)
	extend = func(s api.Sequence, isOut []bool) {
		if sequence.Check(s) == api.OK {
			all = append(all, s)
		}
		if len(s.Steps) == most {
			return
		}
		for chosen := 1; chosen < 1<<s.Actuators; chosen++ {
			behind := slices.Clone(isOut)
			row := make([]int, s.Actuators)
			for actuator := range row {
				if chosen>>actuator&1 == 1 {
					behind[actuator] = !behind[actuator]
					row[actuator] = map[bool]int{true: 1, false: -1}[behind[actuator]]
				}
			}
			wait := []int{0, 0, 7, 0, 30}[(len(all)+len(s.Steps)+chosen)%5]
			extend(api.Sequence{Actuators: s.Actuators, Steps: append(slices.Clone(s.Steps), withSenses(wait, row...))}, behind)
		}
	}
	for n := 1; n <= actuators; n++ {
		extend(api.Sequence{Actuators: n}, make([]bool, n))
	}
	return all
}

// randomSequence returns one of up to 64 steps. It mostly pauses, if pauses are wanted.
func randomSequence(r *rand.Rand, pauses bool) api.Sequence {
	s := api.Sequence{Actuators: 1 + r.Intn(6)}
	isOut, moved := make([]bool, s.Actuators), make([]bool, s.Actuators)
	do := func(moves func(actuator int) bool) {
		row := make([]int, s.Actuators)
		for actuator := range row {
			if moves(actuator) {
				isOut[actuator], moved[actuator] = !isOut[actuator], true
				row[actuator] = map[bool]int{true: 1, false: -1}[isOut[actuator]]
			}
		}
		if slices.ContainsFunc(row, func(n int) bool { return n != 0 }) {
			s.Steps = append(s.Steps, withSenses(r.Intn(2)*r.Intn(100), row...))
		}
	}
	for range r.Intn([]int{2, 12, 61}[r.Intn(3)]) {
		if one := r.Intn(s.Actuators); pauses && r.Intn(4) == 0 {
			do(func(actuator int) bool { return isOut[actuator] })
		} else {
			do(func(actuator int) bool { return actuator == one || r.Intn(9) == 0 })
		}
	}
	do(func(actuator int) bool { return !moved[actuator] })
	do(func(actuator int) bool { return isOut[actuator] })
	return s
}

// sequences returns short sequences and random ones.
func sequences() []api.Sequence {
	l := slices.Concat(shortSequences(2, 5), shortSequences(3, 4))
	r := rand.New(rand.NewSource(191))
	for i := range 1200 {
		l = append(l, randomSequence(r, i%2 == 0))
	}
	return append(l, read(strings.Repeat("A+; A-; ", 31)+"A+; A-"), read("A+ B+ C+ D+ E+ F+; A- B- C- D- E- F- 1000000"), read("F+; E+; D+; C+; B+; A+; A-; B-; C-; D-; E-; F-"))
}

// wrongSequences returns sequences with each error of sequence.Check.
func wrongSequences() []api.Sequence {
	right := read("A+; B+; B-; A-")
	with := func(actuators int, steps ...api.Step) api.Sequence {
		return api.Sequence{Actuators: actuators, Steps: steps}
	}
	return []api.Sequence{
		{}, with(-1, right.Steps...), with(7, right.Steps...), with(math.MaxInt, right.Steps...), with(1), with(1, make([]api.Step, 65)...), with(1, make([]api.Step, 64)...), with(1, right.Steps...), with(3, right.Steps...), with(2, right.Steps[:3]...), with(2, right.Steps[1:]...), with(1, api.Step{Strokes: []api.Stroke{{Actuator: 9}}}), with(1, api.Step{Strokes: []api.Stroke{{Actuator: -1}}}), with(1, api.Step{Strokes: make([]api.Stroke, 7)}), with(1, api.Step{Strokes: []api.Stroke{{Out: true}}, Wait: -1}, api.Step{Strokes: []api.Stroke{{}}}), with(2, withSenses(0, 1, 1), api.Step{Strokes: []api.Stroke{{Actuator: 1}, {Actuator: 0}}}),
	}
}

// oddNumbers are no indices of anything.
var oddNumbers = []int{-1, -2, 64, 65, 1 << 40, api.None, math.MinInt, math.MaxInt, math.MaxInt - 1}
