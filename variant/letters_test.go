package variant_test

import (
	"math/rand"
	"slices"
	"testing"

	"pneumatic/api"
	"pneumatic/sequence"
	"pneumatic/variant"
)

// P19.1

func TestErrorsOfSequences(t *testing.T) {
	none, right := api.Sequence{}, read("A+; B+; B-; A-")
	for _, s := range wrongSequences() {
		f := sequence.Check(s)
		same(t, "Check", f == api.OK, false)
		for _, to := range [][]int{nil, {0}, {0, 1}, {1, 1}, {-1, 9}, make([]int, 7)} {
			got, e := variant.Rename(s, to)
			expect(t, named("Rename", s, to), got, e, none, f)
		}
		got, to, e := variant.Standard(s)
		expect(t, named("Standard", s, ""), got, e, none, f)
		expect(t, named("Standard", s, ""), to, e, []int{}, f)
		pauses, e := variant.Pauses(s)
		expect(t, named("Pauses", s, ""), pauses, e, []int{}, f)
		parts, e := variant.Parts(s)
		expect(t, named("Parts", s, ""), parts, e, []api.Sequence{}, f)
		got, e = variant.Backwards(s)
		expect(t, named("Backwards", s, ""), got, e, none, f)
		for _, k := range append([]int{0, 1}, oddNumbers...) {
			got, e = variant.From(s, k)
			expect(t, named("From", s, k), got, e, none, f)
			got, e = variant.Merge(s, k)
			expect(t, named("Merge", s, k), got, e, none, f)
		}
		for _, other := range append(wrongSequences(), right) {
			alike, e := variant.Alike(s, other)
			expect(t, named("Alike", s, other), alike, e, false, f)
			got, e = variant.Join(s, other)
			expect(t, named("Join", s, other), got, e, none, f)
		}
		alike, e := variant.Alike(right, s)
		expect(t, named("Alike", right, s), alike, e, false, f)
		got, e = variant.Join(right, s)
		expect(t, named("Join", right, s), got, e, none, f)
	}
}

// renamedTo follows the definition: a step moves what the actuators become just as it moved these.
func renamedTo(s api.Sequence, to []int) api.Sequence {
	l := api.Sequence{Actuators: s.Actuators}
	for k, row := range senses(s) {
		become := make([]int, s.Actuators)
		for actuator, n := range row {
			become[to[actuator]] = n
		}
		l.Steps = append(l.Steps, withSenses(s.Steps[k].Wait, become...))
	}
	return l
}

func TestRename(t *testing.T) {
	r := rand.New(rand.NewSource(192))
	for _, s := range sequences() {
		for _, to := range someRenamings(r, s.Actuators) {
			got, e := variant.Rename(s, to)
			expect(t, named("Rename", s, to), got, e, renamedTo(s, to), api.OK)
		}
	}
	for _, x := range []struct {
		text     string
		to       []int
		expected string
	}{
		{"A+; A-", []int{0}, "A+; A-"}, {"B+; A+; A-; B-", []int{1, 0}, "A+; B+; B-; A-"}, {"A+ B+ 5; B-; A- 7", []int{1, 0}, "A+ B+ 5; A-; B- 7"}, {"A+ B+; A- C+ 9; B- C-", []int{2, 0, 1}, "A+ C+; B+ C- 9; A- B-"}, {"A+ B+; A- C+ 9; B- C-", []int{1, 2, 0}, "B+ C+; A+ B- 9; A- C-"}, {"A+ F+; B+ E+; C+ D+; A- B- C- D- E- F-", []int{5, 4, 3, 2, 1, 0}, "A+ F+; B+ E+; C+ D+; A- B- C- D- E- F-"}, {"A+; B+ C+ D+ E+ F+; F-; A- B- C- D- E-", []int{3, 5, 1, 0, 4, 2}, "D+; A+ B+ C+ E+ F+; C-; A- B- D- E- F-"},
	} {
		got, e := variant.Rename(read(x.text), x.to)
		same(t, "error of Rename "+x.text, e, api.OK)
		same(t, "Rename "+x.text, textOf(t, got), x.expected)
	}
}

// listError follows the definition of the errors of renamings.
func listError(n int, to []int) api.Errno {
	if len(to) != n {
		return api.ErrShape
	}
	seen := map[int]bool{}
	for _, k := range to {
		switch {
		case k < 0, k > n-1:
			return api.ErrRange
		case seen[k]:
			return api.ErrTwice
		}
		seen[k] = true
	}
	return api.OK
}

func TestErrorsOfRename(t *testing.T) {
	seen := map[api.Errno]int{}
	for n, s := range []api.Sequence{{}, read("A+; A-"), read("A+; B+; A- B-"), read("A+; B+ C+; C-; A- B-"), read("A+ B+; C+; D+; A- B- C- D-")} {
		for length := range min(n+2, 5) {
			for _, to := range lists(length, -1, n) {
				if n == 0 {
					continue
				}
				f := listError(n, to)
				seen[f]++
				expected := api.Sequence{}
				if f == api.OK {
					expected = renamedTo(s, to)
				}
				got, e := variant.Rename(s, to)
				expect(t, named("Rename", s, to), got, e, expected, f)
			}
		}
	}
	for _, e := range []api.Errno{api.OK, api.ErrShape, api.ErrRange, api.ErrTwice} {
		if seen[e] < 30 {
			t.Errorf("only %d lists with the error %d", seen[e], e)
		}
	}
	s := read("A+; B+; A- B-")
	for _, odd := range oddNumbers {
		for _, to := range [][]int{{odd, 0}, {0, odd}, {odd, odd}} {
			got, e := variant.Rename(s, to)
			expect(t, named("Rename", s, to), got, e, api.Sequence{}, api.ErrRange)
		}
		got, e := variant.Rename(s, []int{1, 1, odd})
		expect(t, "Rename", got, e, api.Sequence{}, api.ErrShape)
	}
	got, e := variant.Rename(s, make([]int, 1<<20))
	expect(t, "Rename", got, e, api.Sequence{}, api.ErrShape)
}

// movesOf returns the steps in which an actuator moves.
func movesOf(s api.Sequence, actuator int) []int {
	var l []int
	for k, row := range senses(s) {
		if row[actuator] != 0 {
			l = append(l, k)
		}
	}
	return l
}

// isBefore reports whether a list is before another one: by the first elements that differ, or as the shorter one.
func isBefore(a, b []int) bool {
	for i := range min(len(a), len(b)) {
		if a[i] != b[i] {
			return a[i] < b[i]
		}
	}
	return len(a) < len(b)
}

// standardOf follows the definition: an actuator becomes the number of those that come before it.
func standardOf(s api.Sequence) []int {
	to := make([]int, s.Actuators)
	for i := range to {
		for j := range to {
			a, b := movesOf(s, i), movesOf(s, j)
			if isBefore(b, a) || !isBefore(a, b) && j < i {
				to[i]++
			}
		}
	}
	return to
}

func TestStandard(t *testing.T) {
	for _, s := range sequences() {
		expected := standardOf(s)
		got, to, e := variant.Standard(s)
		expect(t, named("Standard", s, ""), to, e, expected, api.OK)
		expect(t, named("Standard", s, ""), got, e, renamedTo(s, expected), api.OK)
	}
	for _, x := range []struct {
		text, expected string
		to             []int
	}{
		{"A+; A-", "A+; A-", []int{0}}, {"B+; A+; A-; B-", "A+; B+; B-; A-", []int{1, 0}}, {"A+; B+; B-; A-", "A+; B+; B-; A-", []int{0, 1}}, {"A+ B+; A- B-", "A+ B+; A- B-", []int{0, 1}}, {"B+; C+ 5; A+; A-; C-; B-", "A+; B+ 5; C+; C-; B-; A-", []int{2, 0, 1}}, {"C+; A+ B+; A- B- C-", "A+; B+ C+; A- B- C-", []int{1, 2, 0}},
		// Where lists begin alike, what differs first counts, and at last their lengths.
		{"A+ B+; B-; A-", "A+ B+; A-; B-", []int{1, 0}}, {"A+ B+; A- B-; A+; A-", "A+ B+; A- B-; B+; B-", []int{1, 0}}, {"A+ B+; A- B-; B+; B-", "A+ B+; A- B-; B+; B-", []int{0, 1}}, {"A+ B+; A-; A+; A- B-", "A+ B+; A-; A+; A- B-", []int{0, 1}}, {"A+ B+; B-; B+; A- B-", "A+ B+; A-; A+; A- B-", []int{1, 0}},
	} {
		got, to, e := variant.Standard(read(x.text))
		expect(t, "Standard "+x.text, to, e, x.to, api.OK)
		same(t, "Standard "+x.text, textOf(t, got), x.expected)
	}
}

// areAlike reports whether some renaming leads from one sequence to another one.
func areAlike(a, b api.Sequence) bool {
	return a.Actuators == b.Actuators && slices.ContainsFunc(renamings(a.Actuators), func(to []int) bool { return sequence.Same(renamedTo(a, to), b) })
}

func TestAlike(t *testing.T) {
	r := rand.New(rand.NewSource(193))
	l := slices.Concat(shortSequences(2, 4), shortSequences(3, 3))
	for _, s := range l {
		l = append(l, renamedTo(s, r.Perm(s.Actuators)))
	}
	found := 0
	for range 60 {
		s := randomSequence(r, true)
		if s.Actuators <= 4 && len(s.Steps) <= 12 {
			l = append(l, s, renamedTo(s, r.Perm(s.Actuators)))
		}
	}
	for _, a := range l {
		for _, b := range l {
			if len(a.Steps) != len(b.Steps) && r.Intn(20) > 0 {
				continue
			}
			expected := areAlike(a, b)
			if expected && !sequence.Same(a, b) {
				found++
			}
			alike, e := variant.Alike(a, b)
			if alike != expected || e != api.OK {
				t.Errorf("%s: %v and %d instead of %v", named("Alike", a, b), alike, e, expected)
			}
		}
	}
	if found < 50 {
		t.Errorf("only %d pairs are alike", found)
	}
	for _, x := range []struct {
		a, b  string
		alike bool
	}{
		{"B+; A+; A-; B-", "A+; B+; B-; A-", true}, {"A+; A-; B+; B-", "B+; B-; A+; A-", true}, {"A+; B+; B-; A-", "A+; B+; A-; B-", false}, {"A+; A-", "A+; A- 1", false}, {"A+ 1; A-", "A+ 1; A-", true}, {"A+; B+ 5; B-; A-", "B+; A+; A- 5; B-", false}, {"A+; B+ 5; B-; A-", "B+; A+ 5; A-; B-", true}, {"A+; A-", "A+ B+; A- B-", false}, {"A+; A-", "A+; A-; A+; A-", false},
	} {
		alike, e := variant.Alike(read(x.a), read(x.b))
		expect(t, "Alike "+x.a+" and "+x.b, alike, e, x.alike, api.OK)
	}
}

func TestPauses(t *testing.T) {
	for _, s := range sequences() {
		pauses, e := variant.Pauses(s)
		expect(t, named("Pauses", s, ""), pauses, e, pausesOf(s), api.OK)
	}
	for text, expected := range map[string][]int{
		"A+; A-": {0}, "A+; B+; B-; A-": {0}, "A+; A-; B+; B- 50": {0, 2}, "A+; A- B+; B-": {0}, "A+ B+; A- B-; A+; B+; B-; A-; B+; B-": {0, 2, 6}, "A+; A-; A+; A-; A+; A-": {0, 2, 4}, "B+; B- 5; A+ B+; A-; A+; A- B-": {0, 2}, "F+; F-; A+ B+ C+ D+ E+; A- B- C- D- E-": {0, 2},
	} {
		pauses, e := variant.Pauses(read(text))
		expect(t, "Pauses "+text, pauses, e, expected, api.OK)
	}
}
