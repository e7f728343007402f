package group_test

import (
	"fmt"
	"math/rand"
	"slices"
	"testing"

	"pneumatic/api"
	"pneumatic/group"
)

// P18.2

// fewestOf follows the definitions: the least ring, and the greatest division, of those with the fewest groups.
func fewestOf(s api.Sequence) (division, ring []int) {
	for _, l := range rings(len(s.Steps)) {
		if !isRight(s, l) {
			continue
		}
		if ring == nil || len(l) < len(ring) {
			ring = l
		}
		if l[0] == 0 && (division == nil || len(l) <= len(division)) {
			division = l
		}
	}
	return division, ring
}

func TestFewestAndRingOfShortSequences(t *testing.T) {
	l := slices.Concat(shortSequences(2, 6), shortSequences(3, 4))
	r := rand.New(rand.NewSource(184))
	for range 600 {
		if s := randomSequence(r, 6); len(s.Steps) <= 10 {
			l = append(l, s)
		}
	}
	fewer := 0
	for _, s := range l {
		division, ring := fewestOf(s)
		got, e := group.Fewest(s)
		expect(t, named("Fewest", s, nil), got, e, division, api.OK)
		got, e = group.Ring(s)
		expect(t, named("Ring", s, nil), got, e, ring, api.OK)
		if len(ring) < len(division) {
			fewer++
		}
	}
	if fewer < 50 {
		t.Errorf("only %d rings have fewer groups", fewer)
	}
}

// groupsFrom returns for each step how many groups there are at least from it on to the end, where the last one goes on with the steps before another one; more than there are steps if this is not possible.
func groupsFrom(s api.Sequence, first int) []int {
	n := len(s.Steps)
	most := make([]int, n+1)
	for k := n - 1; k >= 0; k-- {
		most[k] = n + 1
		for end := k + 1; end <= n; end++ {
			last, more := []int{}, 0
			for i := k; i < end; i++ {
				last = append(last, i)
			}
			if end < n {
				more = most[end]
			} else {
				for i := range first {
					last = append(last, i)
				}
			}
			if isOneGroup(s, last) {
				most[k] = min(most[k], more+1)
			}
		}
	}
	return most[:n]
}

// isOneGroup reports whether no actuator moves in two of some steps.
func isOneGroup(s api.Sequence, steps []int) bool {
	moved := [6]bool{}
	for _, k := range steps {
		for _, x := range s.Steps[k].Strokes {
			if moved[x.Actuator] {
				return false
			}
			moved[x.Actuator] = true
		}
	}
	return true
}

// extended returns the fewest list that begins with a step, where behind each element the next one is the first of some that can be.
func extended(s api.Sequence, first int, next func(from int) []int) []int {
	left := groupsFrom(s, first)
	l := []int{first}
	for k := first; left[k] > 1; {
		for _, end := range next(k) {
			steps := []int{}
			for i := k; i < end; i++ {
				steps = append(steps, i)
			}
			if isOneGroup(s, steps) && left[end] == left[k]-1 {
				l, k = append(l, end), end
				break
			}
		}
	}
	return l
}

// behind returns the steps behind one, ascending.
func behind(n int) func(from int) []int {
	return func(from int) []int {
		var l []int
		for k := from + 1; k < n; k++ {
			l = append(l, k)
		}
		return l
	}
}

func TestFewestAndRingOfLongSequences(t *testing.T) {
	r := rand.New(rand.NewSource(185))
	for range 150 {
		s := randomSequence(r, 30)
		n := len(s.Steps)
		expected := extended(s, 0, func(from int) []int {
			l := behind(n)(from)
			slices.Reverse(l)
			return l
		})
		got, e := group.Fewest(s)
		expect(t, named("Fewest", s, nil), got, e, expected, api.OK)
		best, groups := 0, n+1
		for first := range n {
			if left := groupsFrom(s, first)[first]; left < groups {
				best, groups = first, left
			}
		}
		got, e = group.Ring(s)
		expect(t, named("Ring", s, nil), got, e, extended(s, best, behind(n)), api.OK)
	}
}

func TestFewestAndRing(t *testing.T) {
	for text, expected := range map[string][2][]int{
		"A+; B+; B-; A-":         {{0, 2}, {0, 2}},
		"A+; A-; B+; B-":         {{0, 1, 3}, {1, 3}},
		"A+; B+; A-; C+; B-; C-": {{0, 2, 5}, {1, 4}},
		"A+; A-":                 {{0, 1}, {0, 1}},
		"A+ B+; A- B-":           {{0, 1}, {0, 1}},
		"A+; B+; A-; B-":         {{0, 2}, {0, 2}},
		"A+; B+; B-; B+; B-; A-": {{0, 2, 3, 4}, {0, 2, 3, 4}},
		"A+; A-; B+ C+; C-; B-":  {{0, 1, 3}, {1, 3}},
		"F+; A+; B+; C+; D+; E+; A-; B-; C-; D-; E-; F-":     {{0, 6}, {0, 6}},
		"A+; B+; C+ 5; D+ E+ F+; F-; A- B- C- 7; D-; E- 10":  {{0, 4}, {0, 4}},
		"A+; B+; A-; A+; A- B-; C+; C-; A+; A-; B+; B- 1000": {{0, 2, 3, 4, 6, 8, 10}, {1, 3, 4, 6, 8, 10}},
	} {
		s := read(text)
		division, e := group.Fewest(s)
		expect(t, "Fewest "+text, division, e, expected[0], api.OK)
		ring, e := group.Ring(s)
		expect(t, "Ring "+text, ring, e, expected[1], api.OK)
	}
}

func TestProve(t *testing.T) {
	for _, s := range sequences() {
		division, _ := group.Fewest(s)
		pairs, e := group.Prove(s)
		same(t, named("error of Prove", s, pairs), e, api.OK)
		same(t, named("Prove", s, pairs), len(pairs), len(division)-1)
		same(t, named("Prove", s, pairs), proofError(s, pairs), api.OK)
	}
}

// P18.3

func TestTheFewestDivisionIsRightAndProved(t *testing.T) {
	for _, s := range sequences() {
		division, _ := group.Fewest(s)
		same(t, named("Check", s, division), group.Check(s, division), api.OK)
		same(t, named("number of groups", s, division), 2 <= len(division) && len(division) <= len(s.Steps), true)
		pairs, _ := group.Prove(s)
		n, e := group.Verify(s, pairs)
		expect(t, named("Verify", s, pairs), n, e, len(division), api.OK)
		// Each pair has a border of a right division between its steps.
		for _, x := range pairs {
			i, _ := group.At(s, division, x[0])
			k, _ := group.At(s, division, x[1])
			same(t, named("At", s, division), i < k, true)
		}
	}
}

func TestARingHasAsManyGroupsOrOneLess(t *testing.T) {
	for _, s := range sequences() {
		division, _ := group.Fewest(s)
		ring, _ := group.Ring(s)
		same(t, named("CheckRing", s, ring), group.CheckRing(s, ring), api.OK)
		same(t, named("CheckRing", s, division), group.CheckRing(s, division), api.OK)
		less := len(division) - len(ring)
		same(t, named("groups less", s, ring), less == 0 || less == 1, true)
	}
}

func TestNoBorderCanBeLater(t *testing.T) {
	r := rand.New(rand.NewSource(186))
	for _, s := range sequences() {
		division, _ := group.Fewest(s)
		for i := 1; i < len(division); i++ {
			later := slices.Clone(division)
			for later[i]++; later[i] < len(s.Steps) && (i == len(division)-1 || later[i] < later[i+1]); later[i]++ {
				same(t, named("Check", s, later), group.Check(s, later), api.ErrTwice)
			}
		}
		// The borders of another right division are not behind those of the fewest one.
		var other []int
		for k := range s.Steps {
			if longer := append(slices.Clone(other), k); k == 0 || r.Intn(4) == 0 || !isOneGroup(s, stepsFrom(other[len(other)-1], k)) {
				other = longer
			}
		}
		same(t, named("Check", s, other), group.Check(s, other), api.OK)
		for i, k := range division {
			same(t, named("Fewest", s, division)+fmt.Sprint(other), other[i] <= k, true)
		}
	}
}

// stepsFrom returns the steps from one to another one.
func stepsFrom(first, last int) []int {
	var l []int
	for k := first; k <= last; k++ {
		l = append(l, k)
	}
	return l
}

// The rules of all layers about memory

func TestArgumentsAndResultsAreNotShared(t *testing.T) {
	s, kept := read("A+; B+; A-; C+; B-; C- 5"), read("A+; B+; A-; C+; B-; C- 5")
	// A division is read as it is, even if there is room behind it.
	division := append(make([]int, 0, 9), 0, 2, 5)
	ring := append(make([]int, 0, 9), 1, 4)
	pairs := [][2]int{{0, 2}, {3, 5}}
	for range 2 {
		fewest, e := group.Fewest(s)
		expect(t, "Fewest", fewest, e, []int{0, 2, 5}, api.OK)
		clear(fewest[:cap(fewest)])
		least, e := group.Ring(s)
		expect(t, "Ring", least, e, []int{1, 4}, api.OK)
		clear(least[:cap(least)])
		proof, e := group.Prove(s)
		same(t, "Prove", proofError(s, proof), api.OK)
		same(t, "error of Prove", e, api.OK)
		clear(proof[:cap(proof)])
		members, e := group.Members(s, division)
		expect(t, "Members", members, e, [][]int{{0, 1}, {0, 1, 2}, {2}}, api.OK)
		for _, l := range members {
			for i := range l[:cap(l)] {
				l[:cap(l)][i] = 9
			}
		}
		expect(t, "Members", len(members), group.CheckRing(s, ring), 3, api.OK)
		at, e := group.At(s, division, 4)
		expect(t, "At", at, e, 1, api.OK)
		n, e := group.Verify(s, pairs)
		expect(t, "Verify", n, e, 3, api.OK)
	}
	same(t, "arguments", fmt.Sprint(s, division, ring, pairs), fmt.Sprint(kept, []int{0, 2, 5}, []int{1, 4}, [][2]int{{0, 2}, {3, 5}}))
	same(t, "room", fmt.Sprint(division[:9], ring[:9]), fmt.Sprint([]int{0, 2, 5, 0, 0, 0, 0, 0, 0}, []int{1, 4, 0, 0, 0, 0, 0, 0, 0}))
}
