package group_test

import (
	"fmt"
	"math"
	"math/rand"
	"slices"
	"strings"
	"testing"

	"pneumatic/api"
	"pneumatic/group"
	"pneumatic/sequence"
	"pneumatic/stroke"
)

func same[T comparable](t *testing.T, what string, got, expected T) {
	t.Helper()
	if got != expected {
		t.Errorf("%s: %v instead of %v", what, got, expected)
	}
}

// expect compares a result and an error with those that are expected. Nil and empty lists are equal.
func expect(t *testing.T, what string, got any, e api.Errno, expected any, f api.Errno) {
	t.Helper()
	same(t, what, fmt.Sprint(got), fmt.Sprint(expected))
	same(t, "error of "+what, e, f)
}

// named returns the name of a call with a sequence and a list.
func named(function string, s api.Sequence, list any) string {
	text, _ := stroke.Format(s.Steps)
	return fmt.Sprint(function, " ", s.Actuators, ": ", text, " ", list)
}

// read returns the sequence with a text.
func read(text string) api.Sequence {
	s, _, e := sequence.Parse(text)
	if e != api.OK {
		panic(text)
	}
	return s
}

// step returns the step in which some actuators move, and the ends behind it.
func step(isOut []bool, moves func(actuator int) bool) (api.Step, []bool) {
	var x api.Step
	behind := slices.Clone(isOut)
	for actuator := range behind {
		if moves(actuator) {
			behind[actuator] = !behind[actuator]
			x.Strokes = append(x.Strokes, api.Stroke{Actuator: actuator, Out: behind[actuator]})
		}
	}
	return x, behind
}

// shortSequences returns all sequences of up to so many actuators with up to so many steps.
func shortSequences(actuators, most int) []api.Sequence {
	var all []api.Sequence
	var extend func(s api.Sequence, isOut []bool)
	extend = func(s api.Sequence, isOut []bool) {
		if sequence.Check(s) == api.OK {
			all = append(all, s)
		}
		if len(s.Steps) == most {
			return
		}
		for chosen := 1; chosen < 1<<s.Actuators; chosen++ {
			x, behind := step(isOut, func(actuator int) bool { return chosen>>actuator&1 == 1 })
			extend(api.Sequence{Actuators: s.Actuators, Steps: append(slices.Clone(s.Steps), x)}, behind)
		}
	}
	for n := 1; n <= actuators; n++ {
		extend(api.Sequence{Actuators: n}, make([]bool, n))
	}
	return all
}

// randomSequence returns one of up to so many steps and a few, in most of which few actuators move.
func randomSequence(r *rand.Rand, most int) api.Sequence {
	s := api.Sequence{Actuators: 1 + r.Intn(6)}
	ends, moved := make([]bool, s.Actuators), make([]bool, s.Actuators)
	do := func(moves func(actuator int) bool) {
		x, behind := step(ends, moves)
		if len(x.Strokes) == 0 {
			return
		}
		for _, y := range x.Strokes {
			moved[y.Actuator] = true
		}
		x.Wait = r.Intn(2) * r.Intn(100)
		s.Steps, ends = append(s.Steps, x), behind
	}
	for range r.Intn(most + 1) {
		one := r.Intn(s.Actuators)
		do(func(actuator int) bool { return actuator == one || r.Intn(9) == 0 })
	}
	do(func(actuator int) bool { return !moved[actuator] })
	for actuator := range ends {
		do(func(i int) bool { return i == actuator && ends[i] })
	}
	return s
}

// sequences returns short sequences and random ones.
func sequences() []api.Sequence {
	l := slices.Concat(shortSequences(2, 6), shortSequences(3, 4))
	r := rand.New(rand.NewSource(181))
	for range 2000 {
		l = append(l, randomSequence(r, []int{6, 20, 56}[r.Intn(3)]))
	}
	return append(l, read(strings.Repeat("A+; A-; ", 31)+"A+; A-"), read("A+ B+ C+ D+ E+ F+; A- B- C- D- E- F-"), read("A+; B+; C+; D+; E+; F+; F-; E-; D-; C-; B-; A-"))
}

// wrongSequences returns sequences with each error of sequence.Check.
func wrongSequences() []api.Sequence {
	right := read("A+; B+; B-; A-")
	of := func(actuators int, steps ...api.Step) api.Sequence {
		return api.Sequence{Actuators: actuators, Steps: steps}
	}
	return []api.Sequence{
		{}, of(-1, right.Steps...), of(7, right.Steps...), of(math.MaxInt, right.Steps...), of(1), of(1, make([]api.Step, 65)...), of(1, make([]api.Step, 64)...), of(1, right.Steps...), of(3, right.Steps...), of(2, right.Steps[:3]...), of(2, right.Steps[1:]...), of(1, api.Step{Strokes: []api.Stroke{{Actuator: 9}}}), of(1, api.Step{Strokes: make([]api.Stroke, 7)}), of(1, api.Step{Strokes: []api.Stroke{{Out: true}}, Wait: -1}, api.Step{Strokes: []api.Stroke{{}}}),
	}
}

// repeats reports whether some actuator moves in both of two steps.
func repeats(s api.Sequence, i, k int) bool {
	for _, x := range s.Steps[i].Strokes {
		for _, y := range s.Steps[k].Strokes {
			if x.Actuator == y.Actuator {
				return true
			}
		}
	}
	return false
}

// groupsOf returns the steps of the groups of a ring. A division is a ring that begins with 0.
func groupsOf(s api.Sequence, ring []int) [][]int {
	var groups [][]int
	for i, begin := range ring {
		end := ring[(i+1)%len(ring)]
		l := []int{begin}
		for k := (begin + 1) % len(s.Steps); k != end; k = (k + 1) % len(s.Steps) {
			l = append(l, k)
		}
		groups = append(groups, l)
	}
	return groups
}

// isRight reports whether no actuator moves in two steps of a group.
func isRight(s api.Sequence, ring []int) bool {
	for _, l := range groupsOf(s, ring) {
		for i := range l {
			for k := range i {
				if repeats(s, l[k], l[i]) {
					return false
				}
			}
		}
	}
	return true
}

// listError follows the definition of the errors of divisions, and of rings.
func listError(s api.Sequence, l []int, isRing bool) api.Errno {
	n := len(s.Steps)
	switch {
	case len(l) == 0:
		return api.ErrEmpty
	case len(l) > n:
		return api.ErrMany
	case !isRing && l[0] != 0:
		return api.ErrForm
	}
	for i, k := range l {
		switch {
		case k < 0 || k > n-1:
			return api.ErrRange
		case i > 0 && l[i-1] >= k:
			return api.ErrOrder
		}
	}
	if !isRight(s, l) {
		return api.ErrTwice
	}
	return api.OK
}

// rings returns all rings of a sequence, right or not, in lexicographic order.
func rings(n int) [][]int {
	var l [][]int
	for chosen := 1; chosen < 1<<n; chosen++ {
		var ring []int
		for k := range n {
			if chosen>>k&1 == 1 {
				ring = append(ring, k)
			}
		}
		l = append(l, ring)
	}
	slices.SortFunc(l, slices.Compare)
	return l
}

// lists returns all lists of up to so many elements from first to last.
func lists(most, first, last int) [][]int {
	all := [][]int{nil}
	for i := 0; i < len(all); i++ {
		if len(all[i]) == most {
			continue
		}
		for k := first; k <= last; k++ {
			all = append(all, append(slices.Clone(all[i]), k))
		}
	}
	return all
}

// P18.1

func TestErrorsOfSequences(t *testing.T) {
	for _, s := range wrongSequences() {
		f := sequence.Check(s)
		same(t, "Check", f == api.OK, false)
		for _, l := range [][]int{nil, {0}, {0, 1}, {1}, {-1}, make([]int, 70)} {
			same(t, named("Check", s, l), group.Check(s, l), f)
			same(t, named("CheckRing", s, l), group.CheckRing(s, l), f)
			members, e := group.Members(s, l)
			expect(t, named("Members", s, l), members, e, [][]int{}, f)
			at, e := group.At(s, l, len(l)-1)
			expect(t, named("At", s, l), at, e, 0, f)
		}
		for _, pairs := range [][][2]int{nil, {{0, 1}}, {{-1, 0}}, make([][2]int, 70)} {
			n, e := group.Verify(s, pairs)
			expect(t, named("Verify", s, pairs), n, e, 0, f)
		}
		fewest, e := group.Fewest(s)
		expect(t, "Fewest", fewest, e, []int{}, f)
		ring, e := group.Ring(s)
		expect(t, "Ring", ring, e, []int{}, f)
		proof, e := group.Prove(s)
		expect(t, "Prove", proof, e, [][2]int{}, f)
	}
}

func TestCheckOfAllLists(t *testing.T) {
	seen := map[api.Errno]int{}
	for _, s := range shortSequences(2, 4) {
		n := len(s.Steps)
		for _, l := range lists(n+1, -1, n) {
			e, f := listError(s, l, false), listError(s, l, true)
			seen[e]++
			if group.Check(s, l) != e || group.CheckRing(s, l) != f {
				t.Errorf("%s: %d and %d instead of %d and %d", named("Check and CheckRing", s, l), group.Check(s, l), group.CheckRing(s, l), e, f)
			}
		}
	}
	for _, e := range []api.Errno{api.OK, api.ErrEmpty, api.ErrMany, api.ErrForm, api.ErrRange, api.ErrOrder, api.ErrTwice} {
		if seen[e] < 20 {
			t.Errorf("only %d lists with the error %d", seen[e], e)
		}
	}
}

func TestCheckOfAllAscendingLists(t *testing.T) {
	r := rand.New(rand.NewSource(182))
	l := shortSequences(3, 4)
	for range 100 {
		l = append(l, randomSequence(r, 5))
	}
	for _, s := range l {
		if len(s.Steps) > 10 {
			continue
		}
		for _, ring := range rings(len(s.Steps)) {
			same(t, named("Check", s, ring), group.Check(s, ring), listError(s, ring, false))
			same(t, named("CheckRing", s, ring), group.CheckRing(s, ring), listError(s, ring, true))
		}
	}
}

func TestErrorsOfCheck(t *testing.T) {
	s := read("A+; A-; B+; B-")
	for _, x := range []struct {
		l           []int
		check, ring api.Errno
	}{
		{[]int{0, 1, 3}, api.OK, api.OK}, {[]int{0, 1, 2, 3}, api.OK, api.OK}, {[]int{1, 3}, api.ErrForm, api.OK}, {[]int{1, 2, 3}, api.ErrForm, api.OK}, {[]int{0, 2}, api.ErrTwice, api.ErrTwice}, {[]int{0}, api.ErrTwice, api.ErrTwice}, {[]int{3}, api.ErrForm, api.ErrTwice}, {[]int{1, 2}, api.ErrForm, api.ErrTwice}, {[]int{0, 1}, api.ErrTwice, api.ErrTwice},
		{nil, api.ErrEmpty, api.ErrEmpty}, {[]int{}, api.ErrEmpty, api.ErrEmpty}, {[]int{0, 1, 2, 3, 3}, api.ErrMany, api.ErrMany}, {[]int{-1, -1, -1, -1, -1}, api.ErrMany, api.ErrMany}, {make([]int, 1<<20), api.ErrMany, api.ErrMany},
		{[]int{-1, 1}, api.ErrForm, api.ErrRange}, {[]int{4}, api.ErrForm, api.ErrRange}, {[]int{0, 4}, api.ErrRange, api.ErrRange}, {[]int{0, -1}, api.ErrRange, api.ErrRange}, {[]int{0, 1, 1, 4}, api.ErrOrder, api.ErrOrder}, {[]int{0, 4, 1, 1}, api.ErrRange, api.ErrRange}, {[]int{0, 0}, api.ErrOrder, api.ErrOrder}, {[]int{0, 3, 2}, api.ErrOrder, api.ErrOrder}, {[]int{3, 1}, api.ErrForm, api.ErrOrder}, {[]int{2, 2, 9}, api.ErrForm, api.ErrOrder}, {[]int{0, 2, 1}, api.ErrOrder, api.ErrOrder}, {[]int{0, 2, 9}, api.ErrRange, api.ErrRange},
		{[]int{math.MinInt}, api.ErrForm, api.ErrRange}, {[]int{0, math.MaxInt}, api.ErrRange, api.ErrRange}, {[]int{0, api.None}, api.ErrRange, api.ErrRange},
	} {
		same(t, named("Check", s, x.l[:min(9, len(x.l))]), group.Check(s, x.l), x.check)
		same(t, named("CheckRing", s, x.l[:min(9, len(x.l))]), group.CheckRing(s, x.l), x.ring)
		if x.check == api.OK {
			continue
		}
		members, e := group.Members(s, x.l)
		expect(t, "Members", members, e, [][]int{}, x.check)
		for _, k := range []int{0, -1, 9} {
			at, e := group.At(s, x.l, k)
			expect(t, "At", at, e, 0, x.check)
		}
	}
}

func TestMembersAndAt(t *testing.T) {
	for _, s := range sequences() {
		fewest, _ := group.Fewest(s)
		all := make([]int, len(s.Steps))
		for k := range all {
			all[k] = k
		}
		for _, division := range [][]int{fewest, all, moreBorders(fewest, len(s.Steps))} {
			var expected [][]int
			for i, steps := range groupsOf(s, division) {
				var l []int
				for _, k := range steps {
					for _, x := range s.Steps[k].Strokes {
						l = append(l, x.Actuator)
					}
					at, e := group.At(s, division, k)
					expect(t, named("At", s, division), at, e, i, api.OK)
				}
				slices.Sort(l)
				expected = append(expected, l)
			}
			members, e := group.Members(s, division)
			expect(t, named("Members", s, division), members, e, expected, api.OK)
		}
	}
	s := read("A+; C+ D+; B+; B-; A- D-; C-")
	members, e := group.Members(s, []int{0, 3})
	expect(t, "Members", members, e, [][]int{{0, 1, 2, 3}, {0, 1, 2, 3}}, api.OK)
	members, e = group.Members(s, []int{0, 1, 3, 5})
	expect(t, "Members", members, e, [][]int{{0}, {1, 2, 3}, {0, 1, 3}, {2}}, api.OK)
	for _, k := range []int{-1, 6, 7, 64, math.MinInt, math.MaxInt, api.None} {
		at, e := group.At(s, []int{0, 3}, k)
		expect(t, "At", at, e, 0, api.ErrRange)
	}
}

// moreBorders returns a division with the borders of another one, and one more before the last step if it is not there.
func moreBorders(division []int, n int) []int {
	if slices.Contains(division, n-1) {
		return division
	}
	return append(slices.Clone(division), n-1)
}

// proofError follows the definition.
func proofError(s api.Sequence, pairs [][2]int) api.Errno {
	n := len(s.Steps)
	if len(pairs) > n {
		return api.ErrMany
	}
	for j, x := range pairs {
		switch {
		case min(x[0], x[1]) < 0 || max(x[0], x[1]) >= n:
			return api.ErrRange
		case x[0] >= x[1], j > 0 && x[0] < pairs[j-1][1]:
			return api.ErrOrder
		case !repeats(s, x[0], x[1]):
			return api.ErrProof
		}
	}
	return api.OK
}

func TestVerify(t *testing.T) {
	seen := map[api.Errno]int{}
	verify := func(s api.Sequence, pairs [][2]int) {
		expected, f := len(pairs)+1, proofError(s, pairs)
		if f != api.OK {
			expected = 0
		}
		seen[f]++
		n, e := group.Verify(s, pairs)
		if n != expected || e != f {
			t.Errorf("%s: %d and %d instead of %d and %d", named("Verify", s, pairs), n, e, expected, f)
		}
	}
	r := rand.New(rand.NewSource(183))
	for _, s := range shortSequences(2, 4) {
		n := len(s.Steps)
		for _, l := range lists(2, 0, (n+2)*(n+2)-1) {
			var pairs [][2]int
			for _, x := range l {
				pairs = append(pairs, [2]int{x/(n+2) - 1, x%(n+2) - 1})
			}
			verify(s, pairs)
		}
	}
	for _, s := range sequences() {
		pairs, _ := group.Prove(s)
		for range 5 {
			changed := slices.Clone(pairs)
			changed[r.Intn(len(changed))][r.Intn(2)] += r.Intn(7) - 3
			verify(s, changed)
		}
		k := r.Intn(len(pairs))
		verify(s, pairs)
		verify(s, slices.Concat(pairs[:k], pairs[k+1:]))
		verify(s, slices.Concat(pairs[:k], pairs[k:k+1], pairs[k:]))
		verify(s, slices.Repeat(pairs, len(s.Steps)/len(pairs)+1))
	}
	for _, e := range []api.Errno{api.OK, api.ErrMany, api.ErrRange, api.ErrOrder, api.ErrProof} {
		if seen[e] < 5 {
			t.Errorf("only %d lists with the error %d", seen[e], e)
		}
	}
}

func TestErrorsOfVerify(t *testing.T) {
	s := read("A+; B+; A-; C+; B-; C-")
	for _, x := range []struct {
		pairs [][2]int
		n     int
		e     api.Errno
	}{
		{nil, 1, api.OK}, {[][2]int{{0, 2}}, 2, api.OK}, {[][2]int{{1, 4}}, 2, api.OK}, {[][2]int{{0, 2}, {3, 5}}, 3, api.OK}, {[][2]int{{0, 2}, {1, 4}}, 0, api.ErrOrder}, {[][2]int{{3, 5}, {0, 2}}, 0, api.ErrOrder}, {[][2]int{{2, 0}}, 0, api.ErrOrder}, {[][2]int{{2, 2}}, 0, api.ErrOrder}, {[][2]int{{0, 1}}, 0, api.ErrProof}, {[][2]int{{0, 2}, {2, 4}}, 0, api.ErrProof}, {[][2]int{{0, 1}, {2, 0}}, 0, api.ErrProof}, {[][2]int{{2, 0}, {0, 1}}, 0, api.ErrOrder},
		{[][2]int{{-1, 2}}, 0, api.ErrRange}, {[][2]int{{0, 6}}, 0, api.ErrRange}, {[][2]int{{6, 0}}, 0, api.ErrRange}, {[][2]int{{2, -1}}, 0, api.ErrRange}, {[][2]int{{0, 2}, {3, 6}}, 0, api.ErrRange}, {[][2]int{{0, 1}, {3, 6}}, 0, api.ErrProof}, {[][2]int{{math.MinInt, math.MaxInt}}, 0, api.ErrRange}, {[][2]int{{0, math.MaxInt}}, 0, api.ErrRange}, {[][2]int{{api.None, 2}}, 0, api.ErrRange},
		{make([][2]int, 6), 0, api.ErrOrder}, {make([][2]int, 7), 0, api.ErrMany}, {slices.Repeat([][2]int{{-1, 9}}, 7), 0, api.ErrMany}, {make([][2]int, 1<<20), 0, api.ErrMany},
	} {
		n, e := group.Verify(s, x.pairs)
		expect(t, named("Verify", s, x.pairs[:min(9, len(x.pairs))]), n, e, x.n, x.e)
	}
}
