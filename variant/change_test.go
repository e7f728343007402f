package variant_test

import (
	"math/rand"
	"slices"
	"strings"
	"testing"

	"pneumatic/api"
	"pneumatic/sequence"
	"pneumatic/variant"
)

// P19.2

func TestFrom(t *testing.T) {
	states := 0
	for _, s := range sequences() {
		n, pauses := len(s.Steps), pausesOf(s)
		for k := range n {
			expected, f := api.Sequence{}, api.ErrState
			if slices.Contains(pauses, k) {
				expected, f = api.Sequence{Actuators: s.Actuators}, api.OK
				for i := range n {
					expected.Steps = append(expected.Steps, s.Steps[(k+i)%n])
				}
			} else {
				states++
			}
			got, e := variant.From(s, k)
			expect(t, named("From", s, k), got, e, expected, f)
		}
		for _, k := range append([]int{n, n + 1}, oddNumbers...) {
			got, e := variant.From(s, k)
			expect(t, named("From", s, k), got, e, api.Sequence{}, api.ErrRange)
		}
	}
	if states < 100 {
		t.Errorf("only %d steps without a pause", states)
	}
	for _, x := range []struct {
		text     string
		k        int
		expected string
	}{{"A+; A-; B+; B- 50", 0, "A+; A-; B+; B- 50"}, {"A+; A-; B+; B- 50", 2, "B+; B- 50; A+; A-"}, {"A+ B+; A- B- 3; C+; B+; B- 4; C-; A+ 5; A-", 6, "A+ 5; A-; A+ B+; A- B- 3; C+; B+; B- 4; C-"}} {
		got, e := variant.From(read(x.text), x.k)
		same(t, "error of From "+x.text, e, api.OK)
		same(t, "From "+x.text, textOf(t, got), x.expected)
	}
}

// partsOf follows the definition: the steps between pauses, without the columns of actuators that do not move in them.
func partsOf(s api.Sequence) []api.Sequence {
	var l []api.Sequence
	ends := append(pausesOf(s), len(s.Steps))
	for i := range len(ends) - 1 {
		part := api.Sequence{Steps: make([]api.Step, ends[i+1]-ends[i])}
		rows := senses(s)[ends[i]:ends[i+1]]
		for actuator := range s.Actuators {
			if !slices.ContainsFunc(rows, func(row []int) bool { return row[actuator] != 0 }) {
				continue
			}
			for k, row := range rows {
				if row[actuator] != 0 {
					part.Steps[k].Strokes = append(part.Steps[k].Strokes, api.Stroke{Actuator: part.Actuators, Out: row[actuator] > 0})
				}
			}
			part.Actuators++
		}
		for k := range part.Steps {
			part.Steps[k].Wait = s.Steps[ends[i]+k].Wait
		}
		l = append(l, part)
	}
	return l
}

func TestParts(t *testing.T) {
	several := 0
	for _, s := range sequences() {
		expected := partsOf(s)
		if len(expected) > 2 {
			several++
		}
		parts, e := variant.Parts(s)
		expect(t, named("Parts", s, ""), parts, e, expected, api.OK)
	}
	if several < 100 {
		t.Errorf("only %d sequences with more than two parts", several)
	}
	for text, expected := range map[string][]string{
		"A+; A-": {"A+; A-"}, "A+; A-; B+; B- 50": {"A+; A-", "A+; A- 50"}, "A+; B+; B-; A-": {"A+; B+; B-; A-"}, "C+; A+; A-; C- 7; B+; B-; B+ C+ 5; B- C-": {"B+; A+; A-; B- 7", "A+; A-", "A+ B+ 5; A- B-"}, "A+; A-; A+; A-": {"A+; A-", "A+; A-"}, "F+ 9; F-; A+ B+ C+ D+ E+; E-; A- B- C- D-": {"A+ 9; A-", "A+ B+ C+ D+ E+; E-; A- B- C- D-"},
	} {
		parts, e := variant.Parts(read(text))
		var texts []string
		for _, part := range parts {
			texts = append(texts, textOf(t, part))
		}
		expect(t, "Parts "+text, strings.Join(texts, " | "), e, strings.Join(expected, " | "), api.OK)
	}
}

func TestBackwards(t *testing.T) {
	for _, s := range sequences() {
		n := len(s.Steps)
		expected := api.Sequence{Actuators: s.Actuators, Steps: make([]api.Step, n)}
		for k, row := range senses(s) {
			for actuator := range row {
				row[actuator] = -row[actuator]
			}
			wait := s.Steps[n-1].Wait
			if k > 0 {
				wait = s.Steps[k-1].Wait
			}
			expected.Steps[n-1-k] = withSenses(wait, row...)
		}
		got, e := variant.Backwards(s)
		expect(t, named("Backwards", s, ""), got, e, expected, api.OK)
	}
	for text, expected := range map[string]string{
		"A+; A-": "A+; A-", "A+ 5; A-": "A+ 5; A-", "A+; A- 5": "A+; A- 5", "A+ 20; B+; B- 30; A-": "A+ 30; B+; B- 20; A-", "A+ 1; B+ 2; A- 3; B- 4": "B+ 3; A+ 2; B- 1; A- 4", "A+ B+; A- C+ 9; B- C- 3": "B+ C+ 9; A+ C-; A- B- 3",
	} {
		got, e := variant.Backwards(read(text))
		same(t, "error of Backwards "+text, e, api.OK)
		same(t, "Backwards "+text, textOf(t, got), expected)
	}
}

// mergedAt follows the definition.
func mergedAt(s api.Sequence, k int) (api.Sequence, api.Errno) {
	if s.Steps[k].Wait > 0 {
		return api.Sequence{}, api.ErrState
	}
	l := api.Sequence{Actuators: s.Actuators}
	rows := senses(s)
	for i, row := range rows {
		if i == k+1 {
			for actuator, n := range rows[k] {
				if n != 0 && row[actuator] != 0 {
					return api.Sequence{}, api.ErrState
				}
				row[actuator] += n
			}
		}
		if i != k {
			l.Steps = append(l.Steps, withSenses(s.Steps[i].Wait, row...))
		}
	}
	return l, api.OK
}

func TestMerge(t *testing.T) {
	seen := map[api.Errno]int{}
	for _, s := range sequences() {
		n := len(s.Steps)
		for k := range n - 1 {
			expected, f := mergedAt(s, k)
			seen[f]++
			got, e := variant.Merge(s, k)
			expect(t, named("Merge", s, k), got, e, expected, f)
		}
		for _, k := range append([]int{n - 1, n, n + 1}, oddNumbers...) {
			got, e := variant.Merge(s, k)
			expect(t, named("Merge", s, k), got, e, api.Sequence{}, api.ErrRange)
		}
	}
	for _, e := range []api.Errno{api.OK, api.ErrState} {
		if seen[e] < 1000 {
			t.Errorf("only %d steps with the error %d", seen[e], e)
		}
	}
	for _, x := range []struct {
		text     string
		k        int
		expected string
		e        api.Errno
	}{
		{"A+; B+; A-; B- 10", 0, "A+ B+; A-; B- 10", api.OK}, {"A+; B+; A-; B- 10", 1, "A+; A- B+; B- 10", api.OK}, {"A+; B+; A-; B- 10", 2, "A+; B+; A- B- 10", api.OK}, {"A+; B+; A-; B- 10", 3, "", api.ErrRange}, {"A+; A-", 0, "", api.ErrState}, {"A+; A-", 1, "", api.ErrRange},
		{"A+ 1; B+; A-; B-", 0, "", api.ErrState}, {"A+; B+ 1; A-; B-", 0, "A+ B+ 1; A-; B-", api.OK}, {"A+ B+; C+; A- B- C-", 1, "", api.ErrState}, {"B+ C+; A+ D+ 6; A- B- C- D-", 0, "A+ B+ C+ D+ 6; A- B- C- D-", api.OK}, {"A+ C+; B+ F+; D+ E+; A- B- C- D- E- F-", 1, "A+ C+; B+ D+ E+ F+; A- B- C- D- E- F-", api.OK}, {"A+; B+; B- C+; A- C-", 1, "", api.ErrState}, {"A+; B+ C+; A-; B- C-", 2, "A+; B+ C+; A- B- C-", api.OK},
	} {
		got, e := variant.Merge(read(x.text), x.k)
		same(t, named("error of Merge", read(x.text), x.k), e, x.e)
		if e == api.OK {
			same(t, named("Merge", read(x.text), x.k), textOf(t, got), x.expected)
		}
	}
}

func TestJoin(t *testing.T) {
	l := slices.Concat(shortSequences(2, 3), shortSequences(3, 3))
	r := rand.New(rand.NewSource(194))
	for range 80 {
		l = append(l, randomSequence(r, true))
	}
	many := 0
	for _, a := range l {
		for _, b := range l {
			expected, f := api.Sequence{Actuators: a.Actuators, Steps: slices.Concat(a.Steps, b.Steps)}, api.OK
			if b.Actuators > a.Actuators {
				expected.Actuators = b.Actuators
			}
			if len(a.Steps)+len(b.Steps) > 64 {
				expected, f = api.Sequence{}, api.ErrMany
				many++
			}
			got, e := variant.Join(a, b)
			expect(t, named("Join", a, b), got, e, expected, f)
		}
	}
	if many < 20 {
		t.Errorf("only %d pairs have too many steps", many)
	}
	turns := func(n int) api.Sequence { return read(strings.Repeat("A+; A-; ", n-1) + "A+; A-") }
	for _, x := range []struct {
		a, b int
		e    api.Errno
	}{{31, 1, api.OK}, {1, 31, api.OK}, {16, 16, api.OK}, {32, 1, api.ErrMany}, {1, 32, api.ErrMany}, {32, 32, api.ErrMany}, {17, 16, api.ErrMany}} {
		got, e := variant.Join(turns(x.a), turns(x.b))
		same(t, "error of Join", e, x.e)
		same(t, "Join", sequence.Same(got, turns(32)), x.e == api.OK)
	}
	// 63 and 64 steps, where one of both has an odd number
	odd := read("A+ B+; A-; B-")
	got, e := variant.Join(turns(30), odd)
	same(t, "error of Join", e, api.OK)
	same(t, "steps of Join", len(got.Steps), 63)
	got, e = variant.Join(odd, turns(31))
	expect(t, "Join", got, e, api.Sequence{}, api.ErrMany)
	got, e = variant.Join(read("A+ 3; A-"), read("A+; B+; B-; A- 4"))
	same(t, "error of Join", e, api.OK)
	same(t, "Join", textOf(t, got), "A+ 3; A-; A+; B+; B-; A- 4")
}
