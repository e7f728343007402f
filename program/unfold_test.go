package program_test

import (
	"slices"
	"strings"
	"testing"

	"pneumatic/api"
	"pneumatic/program"
	"pneumatic/sequence"
)

// P15.2

// done follows the definition, up to about so many steps.
func done(n api.Node, on []string, most int) []api.Step {
	var l []api.Step
	switch n.Kind {
	case api.NodeStep:
		return []api.Step{n.Step}
	case api.NodeList:
		for _, x := range n.Nodes {
			l = append(l, done(x, on, most)...)
		}
	case api.NodeRepeat:
		for range n.Count {
			if len(l) > most {
				break
			}
			l = append(l, done(n.Nodes[0], on, most)...)
		}
	case api.NodeChoose:
		if slices.Contains(on, n.Name) {
			return done(n.Nodes[0], on, most)
		}
		return done(n.Nodes[1], on, most)
	}
	return l[:min(len(l), most+1)]
}

// lengthOf follows the definition. (A float has all the lengths that there are.)
func lengthOf(n api.Node, on []string) float64 {
	switch n.Kind {
	case api.NodeList:
		sum := 0.0
		for _, x := range n.Nodes {
			sum += lengthOf(x, on)
		}
		return sum
	case api.NodeRepeat:
		return float64(n.Count) * lengthOf(n.Nodes[0], on)
	case api.NodeChoose:
		if slices.Contains(on, n.Name) {
			return lengthOf(n.Nodes[0], on)
		}
		return lengthOf(n.Nodes[1], on)
	}
	return 1
}

// sequenceOf follows the definition.
func sequenceOf(n api.Node, on []string) (api.Sequence, api.Errno) {
	l := done(n, on, 64)
	if len(l) > 64 {
		return api.Sequence{}, api.ErrLimit
	}
	s := api.Sequence{Steps: l}
	for _, step := range l {
		for _, x := range step.Strokes {
			s.Actuators = max(s.Actuators, x.Actuator+1)
		}
	}
	if e := sequence.Check(s); e != api.OK {
		return api.Sequence{}, e
	}
	return s, api.OK
}

// lists of inputs that are true
var on = [][]string{nil, {"a"}, {"b", "a"}, {"a", "a", "", "é", "no input"}, {"long", "A", "if", "repeat"}, words}

func TestLengthAndUnfold(t *testing.T) {
	limits := 0
	for _, n := range programs() {
		for _, names := range on {
			what := textOf(n) + " with " + strings.Join(names, ",")
			length, f := lengthOf(n, names), api.OK
			if length > 1<<20 {
				length, f = 0, api.ErrLarge
			}
			k, e := program.Length(n, names)
			expect(t, "Length "+what, k, e, int(length), f)
			steps, f := done(n, names, 64), api.OK
			if len(steps) > 64 {
				steps, f = nil, api.ErrLimit
				limits++
			}
			l, e := program.Unfold(n, names)
			expect(t, "Unfold "+what, l, e, steps, f)
		}
	}
	if limits < 300 {
		t.Errorf("only %d programs with more than 64 steps", limits)
	}
}

// nested returns repeats within each other.
func nested(n api.Node, counts ...int) api.Node {
	for _, count := range counts {
		n = repeat(count, n)
	}
	return n
}

func TestLimits(t *testing.T) {
	a := one("A+")
	great := nested(a, 4, 64, 64, 64)
	for _, x := range []struct {
		n      api.Node
		on     []string
		length int
		e      api.Errno
		steps  int
		f      api.Errno
	}{
		{great, nil, 1 << 20, api.OK, 0, api.ErrLimit}, {list(great, a), nil, 0, api.ErrLarge, 0, api.ErrLimit}, {nested(a, 5, 64, 64, 64), nil, 0, api.ErrLarge, 0, api.ErrLimit}, {list(nested(a, 63, 64, 64, 4), nested(a, 64, 64, 4)), nil, 1 << 20, api.OK, 0, api.ErrLimit},
		{nested(a, 64, 64, 64, 64, 64, 64, 64, 64, 64, 64, 64, 64, 64, 64, 64), nil, 0, api.ErrLarge, 0, api.ErrLimit}, {nested(a, 16, 64, 64, 64, 64, 64, 64, 64, 64, 64, 64), nil, 0, api.ErrLarge, 0, api.ErrLimit}, {list(nested(a, 64, 64, 64, 64, 64, 64, 64, 64, 64, 64, 8), a), nil, 0, api.ErrLarge, 0, api.ErrLimit}, {list(slices.Repeat([]api.Node{nested(a, 64, 64, 64, 64, 64, 64, 64, 64, 64, 64)}, 16)...), nil, 0, api.ErrLarge, 0, api.ErrLimit},
		{choice("x", a, nested(a, 64, 64, 64, 64)), []string{"x"}, 1, api.OK, 1, api.OK}, {choice("x", a, nested(a, 64, 64, 64, 64)), []string{"X"}, 0, api.ErrLarge, 0, api.ErrLimit}, {nested(choice("x", great, a), 64), nil, 64, api.OK, 64, api.OK},
		{nested(a, 64), nil, 64, api.OK, 64, api.OK}, {list(nested(a, 64), a), nil, 65, api.OK, 0, api.ErrLimit}, {nested(a, 13, 5), nil, 65, api.OK, 0, api.ErrLimit}, {nested(a, 8, 8), nil, 64, api.OK, 64, api.OK}, {list(slices.Repeat([]api.Node{a}, 64)...), nil, 64, api.OK, 64, api.OK}, {list(slices.Repeat([]api.Node{a}, 65)...), nil, 65, api.OK, 0, api.ErrLimit},
		{nested(a, 3), nil, 3, api.OK, 3, api.OK}, {nested(a, 1, 1, 1), nil, 1, api.OK, 1, api.OK},
	} {
		n, e := program.Length(x.n, x.on)
		expect(t, "Length "+textOf(x.n), n, e, x.length, x.e)
		l, e := program.Unfold(x.n, x.on)
		expect(t, "Unfold "+textOf(x.n), len(l), e, x.steps, x.f)
	}
	k, e := program.Length(choice("x", a, great), slices.Repeat([]string{"no", "x"}, 100000))
	expect(t, "Length", k, e, 1, api.OK)
}

func TestSequence(t *testing.T) {
	seen := map[api.Errno]int{}
	for _, n := range programs() {
		for _, names := range on {
			expected, f := sequenceOf(n, names)
			s, e := program.Sequence(n, names)
			expect(t, "Sequence "+textOf(n), s, e, expected, f)
			seen[f]++
		}
	}
	for _, e := range []api.Errno{api.OK, api.ErrLimit, api.ErrState, api.ErrOrder, api.ErrEmpty} {
		if seen[e] < 20 {
			t.Errorf("only %d sequences with the error %d", seen[e], e)
		}
	}
	for text, e := range map[string]api.Errno{
		"repeat 3 A+": api.ErrState, "A+": api.ErrOrder, "A-": api.ErrState, "{ A+; A- }": api.OK, "{ B+; B- }": api.ErrEmpty, "repeat 32 { A+; A- }": api.OK, "repeat 33 { A+; A- }": api.ErrLimit, "{ repeat 40 { A+; A- }; A- }": api.ErrLimit, "repeat 64 A+": api.ErrState, "{ A+; if x B+ else { B+; B-; B+ }; A- B- 5 }": api.OK, "if x { A+; A- } else A+": api.ErrOrder, "if on { A+; A- } else A+": api.OK,
	} {
		n, _, f := program.Parse(text)
		same(t, "error of Parse "+text, f, api.OK)
		s, f := program.Sequence(n, []string{"on"})
		same(t, "error of Sequence "+text, f, e)
		same(t, "Sequence "+text, len(s.Steps) > 0, e == api.OK)
	}
	n, _, _ := program.Parse("{ A+; if long repeat 2 { B+; B- } else { B+; B- }; A- }")
	for text, names := range map[string][]string{"A+; B+; B-; B+; B-; A-": {"long"}, "A+; B+; B-; A-": {"Long", "if"}} {
		s, e := program.Sequence(n, names)
		expected, _, _ := sequence.Parse(text)
		expect(t, "Sequence", s, e, expected, api.OK)
	}
}

// allLists returns all ascending lists of names, by their numbers.
func allLists(names []string) [][]string {
	l := [][]string{nil}
	for _, name := range names {
		for _, before := range slices.Clone(l) {
			l = append(l, append(slices.Clone(before), name))
		}
	}
	return l
}

func TestFaulty(t *testing.T) {
	seen := map[api.Errno]int{}
	lists := 0
	for _, n := range programs() {
		names, _ := program.Inputs(n)
		var expected []string
		var f, g api.Errno
		if len(names) > 6 {
			g = api.ErrLimit
		}
		for _, l := range allLists(names[:min(6, len(names))]) {
			if f == api.OK && g == api.OK {
				_, f = sequenceOf(n, l)
				expected = l
			}
		}
		if f == api.OK {
			expected = nil
		}
		l, reason, e := program.Faulty(n)
		expect(t, "Faulty "+textOf(n), l, e, expected, g)
		same(t, "reason of Faulty "+textOf(n), reason, f)
		seen[f]++
		seen[g]++
		if len(expected) > 0 {
			lists++
		}
	}
	for _, e := range []api.Errno{api.OK, api.ErrLimit, api.ErrState, api.ErrOrder, api.ErrEmpty} {
		if seen[e] < 20 {
			t.Errorf("only %d programs with the error %d", seen[e], e)
		}
	}
	if lists < 20 {
		t.Errorf("only %d programs are faulty with some input", lists)
	}
}

func TestFaultyOfInputs(t *testing.T) {
	right, wrong := list(steps("A+; A-")...), one("A-")
	// cube is faulty with all of some inputs, whichever others there are.
	cube := func(faulty api.Node, names ...string) api.Node {
		for _, name := range names {
			faulty = choice(name, faulty, right)
		}
		return faulty
	}
	mention := func(n api.Node, names ...string) api.Node {
		for _, name := range names {
			n = choice(name, n, n)
		}
		return n
	}
	six := []string{"f", "b", "d", "a", "c", "e"}
	for _, x := range []struct {
		n      api.Node
		l      []string
		reason api.Errno
		e      api.Errno
	}{
		{right, nil, api.OK, api.OK}, {wrong, nil, api.ErrState, api.OK}, {one("A+"), nil, api.ErrOrder, api.OK}, {nested(right, 64), nil, api.ErrLimit, api.OK}, {choice("x", wrong, right), []string{"x"}, api.ErrState, api.OK}, {choice("x", right, wrong), nil, api.ErrState, api.OK}, {choice("x", right, right), nil, api.OK, api.OK}, {choice("x", right, choice("x", wrong, right)), nil, api.OK, api.OK},
		{cube(wrong, "b", "a"), []string{"a", "b"}, api.ErrState, api.OK}, {cube(one("A+"), "c", "a"), []string{"a", "c"}, api.ErrOrder, api.OK}, {list(cube(wrong, "c"), cube(wrong, "a", "b")), []string{"a", "b"}, api.ErrState, api.OK}, {list(cube(wrong, "b"), cube(wrong, "a", "c")), []string{"b"}, api.ErrState, api.OK}, {list(cube(wrong, "d"), cube(wrong, "a", "b", "c")), []string{"a", "b", "c"}, api.ErrState, api.OK},
		{cube(wrong, six...), []string{"a", "b", "c", "d", "e", "f"}, api.ErrState, api.OK}, {mention(wrong, six[:5]...), nil, api.ErrState, api.OK}, {mention(right, six...), nil, api.OK, api.OK}, {cube(wrong, append(six, "g")...), nil, api.OK, api.ErrLimit}, {cube(cube(wrong, "b", "d"), append(six, "a", "f")...), []string{"a", "b", "c", "d", "e", "f"}, api.ErrState, api.OK}, {mention(wrong, "a", "b", "c", "d", "e", "f", "g"), nil, api.OK, api.ErrLimit},
	} {
		l, reason, e := program.Faulty(x.n)
		expect(t, "Faulty "+textOf(x.n), l, e, x.l, x.e)
		same(t, "reason of Faulty", reason, x.reason)
	}
}

// rewritten returns a program with one place rewritten that is not of the normal form, if there is one.
func rewritten(n api.Node) (api.Node, bool) {
	if (n.Kind == api.NodeList || n.Kind == api.NodeRepeat && n.Count == 1) && len(n.Nodes) == 1 {
		return n.Nodes[0], true
	}
	for i, x := range n.Nodes {
		if n.Kind == api.NodeList && x.Kind == api.NodeList {
			return list(slices.Concat(n.Nodes[:i], x.Nodes, n.Nodes[i+1:])...), true
		}
		if y, ok := rewritten(x); ok {
			n.Nodes = slices.Clone(n.Nodes)
			n.Nodes[i] = y
			return n, true
		}
	}
	return n, false
}

func TestNormal(t *testing.T) {
	for _, n := range programs() {
		expected, shorter := rewritten(n)
		for shorter {
			expected, shorter = rewritten(expected)
		}
		normal, e := program.Normal(n)
		expect(t, "Normal "+textOf(n), normal, e, expected, api.OK)
	}
	for text, expected := range map[string]string{
		"A+": "A+", "{ A+ }": "A+", "{ { { A+ } } }": "A+", "{ A+; { B+; C+ }; { { D+ } } }": "{ A+; B+; C+; D+ }", "repeat 1 A+": "A+", "repeat 2 A+": "repeat 2 A+", "repeat 1 { A+; B+ }": "{ A+; B+ }", "{ repeat 1 { A+; B+ }; C+ }": "{ A+; B+; C+ }", "{ repeat 1 repeat 1 { A+; { B+ } } }": "{ A+; B+ }", "repeat 2 { repeat 1 { A+ } }": "repeat 2 A+", "repeat 2 repeat 3 A+": "repeat 2 repeat 3 A+", "{ repeat 2 { A+; { B+; C+ } }; D+ }": "{ repeat 2 { A+; B+; C+ }; D+ }", "if x { A+ } else repeat 1 { B+; { C+; D+ } }": "if x A+ else { B+; C+; D+ }", "{ { A+; A- }; if x { A+; A- } else { A+; A- } }": "{ A+; A-; if x { A+; A- } else { A+; A- } }", "if x A+ else A+": "if x A+ else A+",
	} {
		n, _, e := program.Parse(text)
		same(t, "error of Parse "+text, e, api.OK)
		normal, e := program.Normal(n)
		same(t, "error of Normal "+text, e, api.OK)
		same(t, "Normal "+text, textOf(normal), expected)
	}
}
